import PyProof.Rows.All
import Wide.All
import OpenK.AllK
import Wide.FinOn
import Lean
import PyProof.EqAt
import PyProof.EqKinds
import PyProof.TupleCall
import PyProof.P3In
import PyProof.Rows.EqDataRows
import KE.KTryMore
import PyProof.SetScanFacts
import PyProof.Rows.SetFrom
import PyProof.SetRoads
import KE.KSortAsk
import KE.KSortTup
import KE.KRevIter
import PyProof.ZipIter
import PySem.Challenge.RW_snugfit_k52_whole_areas_of_sums
set_option Elab.async false
set_option linter.all false
set_option maxRecDepth 100000
set_option maxHeartbeats 8000000
set_option compiler.extract_closed false
noncomputable section
set_option genSizeOf false
set_option genInjectivity false
open Option renaming bind_eq_some_iff→Za,map_eq_some_iff→Zb,bind_some→Yy,map_some→Wk,bind_none→Jp,isSome_iff_exists→Uf,getD_some→Vg,getD_none→Vh
open List renaming length_map→Zc,getElem?_eq_getElem→Ze,mem_cons→Zf,getElem?_map→Zi,getD_eq_getElem?_getD→Zk,getElem?_eq_some_iff→Zm,mem_singleton→Zn,size_toArray→Zq,pairwise_cons→Zt,length_cons→Zu,mem_map→Zv,length_append→Zw,getElem?_append_right→Z0,drop_eq_getElem_cons→Z1,mem_append_right→Z6,getElem?_append_left→Z9,length_drop→Yc,mem_of_getElem?→Yh,not_mem_nil→Yj,map_cons→Yk,mem_cons_of_mem→Yp,length_replicate→Yq,getElem?_eq_none→Yr,mem_append→Ys,length_reverse→Yz,mem_map_of_mem→Y4,getElem?_cons_succ→Y8,getElem?_set_ne→Y9,getElem?_of_mem→Wa,map_map→Wb,getElem?_set_self→Wd,mem_cons_self→Wi,nodup_cons→Wn,map_append→Wo,lookup_cons→Wv,length_take→Ww,all_cons→Wx,mem_append_left→W3,getElem?_replicate→W6,mem_reverse→W9,length_set→Qe,length_range→Qh,pairwise_iff_getElem→Qn,pairwise_singleton→Qt,getElem?_cons_zero→Qu,append_nil→Qv,take_of_length_le→Qz,getElem_mem→Ka,getElem_inj→Kb,pairwise_append→Kg,length_dropLast→Kh,length_nil→Kj,getElem_of_mem→Kk,filterMap_cons→Km,map_nil→Kp,getElem?_zip_eq_some→Kt,reverse_cons→Ku,pairwise_map→Kv,getElem?_take_of_lt→Kw,map_drop→K0,getLast?_cons_cons→K1,drop_zero→Jc,getElem?_range→Jg,mem_filterMap→Ji,findIdx?_eq_some_iff_getElem→Jj,getElem_map→Jv,all_eq_true→Jw,of_mem_zip→J2,length_zip→J3,forIn_cons→Ua,nodup_iff_pairwise_ne→Uh,mem_range→Uo,getElem?_dropLast→Uv,take_append_drop→Ux,length_singleton→Uy,getElem?_reverse→Uz,dropLast_eq_take→U0,mem_of_mem_drop→U5,dropLast_subset→U6,length_pos_iff→Vc,length_zipIdx→Vj,getElem?_drop→Vk,ext_getElem?→Vt,append_assoc→Vu,drop_length→V5
open Nat renaming lt_of_lt_of_le→Zd,le_refl→Zj,mod_eq_of_lt→Zo,ne_of_gt→Z4,ne_of_lt→Z8,le_trans→Ya,lt_or_ge→Yg,zero_le→Yi,zero_add→Yv,lt_of_le_of_lt→Yx,add_mod_right→Y7,eq_zero_or_pos→Wj,add_sub_cancel→W0,lt_succ_self→Qa,mod_lt→Qc,mod_add_mod→Qw,le_of_succ_le_succ→Q1,lt_succ_of_lt→Q6,mod_self→Q9,le_add_right→Kf,le_succ→Ko,add_sub_assoc→Ky,sub_zero→K7,sub_self→K8,min_eq_left→K9,le_of_lt→Ja,add_mod→Jh,succ_pos→Jt,pow_succ→Ju,succ_ne_self→Jz,two_pow_pos→Ug,add_lt_add→Up,zero_mod→U3,add_comm→U4,mul_two→Vi,mod_eq_sub_mod→Vr,eq_or_lt_of_le→Vs
open PySem renaming wpAny_bind→Zg,wpAny_pure→Zy,wpAny_holding→Y5,wpAny_updateSeq→Qj,wpAny_passesOwn→Qk,wpAny_truthy_bool→Qo,mem_of_lookup→Qp,sizeLine_eq→Qy,wpAny_Call_Name_kw→Q2,plainId_quiet→Q3,codeAny_builtin→Q4,wpAny_seqItems→K2,wpAny_standAt→K4,wpAny_field→K5,wpAny_tryCatch→Jo,wpAny_letGo→Jr,wpAny_pyIter_list→Uc,wpAny_mono→Ud,wpAny_specialOf→Us,wpAny_execs_nil→Ut,wpAny_rule→U8,wpAny_comprehension_free→U9,call_meets→Va,wpAny_pyNext_list_item→Vo,wpAny_nextOf_list_item→Vp,wpAny_pyNext_list_end→Vx,seqIndex_neg→Vy,codeAny_mono→Vz,builtinLookup_eq_fast→V1
open Rat renaming mul_nonneg→Zh,le_of_lt→Zr,mul_pos→Z2,num_divInt_den→Yd,add_comm→Yo,mul_eq_zero→Yt,div_def→Yw,divInt_eq_div→Y6,divInt_mul_divInt→Wg,le_refl→Wp,intCast_mul→Wq,mul_inv_cancel→Wz,zero_add→Qf,divInt_add_divInt→Qg,zero_mul→Qq,intCast_lt_intCast→Q0,inv_pos→Q5,add_zero→Q8,one_mul→K3,intCast_sub→K6,sub_eq_add_neg→Jk,inv_mul_cancel→Jl,mul_comm→Js,divInt_eq_divInt_iff→Uq,mul_assoc→Uu,intCast_le_intCast→Uw,mul_lt_mul_right→Vb,not_le→V3
open Bool renaming and_eq_true→Zl,false_ne_true→Zx,false_eq_true→Y3,eq_iff_iff→Kn,eq_false_iff→Jq,beq_eq_decide_eq→U1
open PySem.Heap renaming get?_push_of_some→Zp,lt_size→Zs,get?_push_size→Yf,get?_update_other→Yn,get?_update_self→Wy,size_update→Kc,get?_none_of_le→Jb
open Int renaming mul_ne_zero→Zz,mul_fdiv_cancel_left→Z7,mul_nonneg→Yb,natAbs_natCast→Ye,natCast_nonneg→Yl,natAbs_mul→Ym,mul_pos→Wf,le_of_lt→Wl,toNat_natCast→Wm,emod_nonneg→Wr,mul_nonpos_of_nonneg_of_nonpos→Wu,gcd_eq_one_iff→W1,natAbs_mul_self'→W4,gcd_dvd_right→W5,mul_le_mul_of_nonneg_right→W7,dvd_trans→W8,fmod_eq_emod_of_nonneg→Qi,gcd_mul_right_right_of_gcd_eq_one→Ql,mul_comm→Qr,dvd_mul_of_dvd_right→Qs,emod_lt_of_pos→Qx,not_lt→Q7,gcd_dvd_left→Ki,fdiv_eq_ediv_of_nonneg→Kq,eq_of_mul_eq_mul_right→Ks,natAbs_add_le→Kz,mul_dvd_mul_left→Jd,mul_assoc→Jm,zero_mul→Jx,mul_one→Ui,le_refl→Uj,dvd_coe_gcd→Uk,zero_dvd→U7,lt_trichotomy→V6
open Option.some renaming inj→Z3
open Prod renaming ext→Z5
open PyProof.Rows renaming callWith_type1→Yu,assignInOrder_cons→Jy,subscriptTail_builtinR→Vq
open Classical renaming byContradiction→Wc
open List.Pairwise renaming imp_of_mem→We
open Ne renaming symm→Wh
open PySem.Around renaming under_plainId→W2,in1_units→Vn
open PySem.F renaming plain_extend_loop→Qb,plain_min_loop→Qd,slot_zip_next→Je,entry_extend_loop→Jn,plainAttrs_list→J0,slot_list_index→Ue,entry_min_loop→Ul
open Array renaming getElem?_eq_getElem→Qm,getElem_toList→Kd,length_toList→Jf,mem_toList_iff→U2,forIn_toList→Ve,append_assoc→Vf,toList_inj→Vw
open PySem.W renaming kia_one→Ke,cellsFrom_some→Um,mg_of→V4
open PySem.AutoSeq1 renaming wpAny_loadPart'→J1
open PySem.Calls renaming Name_function_global→Ub,callWith_builtin→Ur,spliced_cons→Vd,spliced_nil→Vm
open Iff renaming rfl→Vl
open Decidable renaming em→Vv
namespace L2
open PySem PySem.Spec PyProof.Rows
abbrev Key:=Sum Int Str
def keyIs:Key->Value->Bool
 | .inl k,v=>Value.isInt k v
 | .inr x,v=>Value.isStrOf x v
def keyH (w:World):Key->Int
 | .inl k=>hashInt k
 | .inr x=>hashStr w x
theorem G1:∀ {k:Key} {v:Value},keyIs k v=true->(∃ i t,k=Sum.inl i/\v=Value.int i t)\/(∃ x t,k=Sum.inr x/\v=Value.str x t)
 | .inl i,v,h=>by
  obtain⟨t,e⟩:=Value.isInt_shape (k:=i) (v:=v) h
  exact .inl ⟨i,t,rfl,e⟩
 | .inr x,v,h=>by
  obtain⟨t,e⟩:=Value.isStrOf_shape (x:=x) (v:=v) h
  exact .inr ⟨x,t,rfl,e⟩
theorem key_ll (a b:Int):decide ((Sum.inl a:Key)=Sum.inl b)=(a == b):=by
 by_cases e:a=b
 ·subst e;simp
 ·have h:¬ (Sum.inl a:Key)=Sum.inl b:=fun q=>e (Sum.inl.inj q)
  rw [decide_eq_false h];exact (beq_eq_false_iff_ne.mpr e).symm
theorem key_rr (a b:Str):decide ((Sum.inr a:Key)=Sum.inr b)=decide (a=b):=by
 by_cases e:a=b
 ·subst e;simp
 ·have h:¬ (Sum.inr a:Key)=Sum.inr b:=fun q=>e (Sum.inr.inj q)
  rw [decide_eq_false h,decide_eq_false e]
theorem key_lr (a:Int) (b:Str):decide ((Sum.inl a:Key)=Sum.inr b)=false:=decide_eq_false (fun q=>nomatch q)
theorem key_rl (a:Str) (b:Int):decide ((Sum.inr a:Key)=Sum.inl b)=false:=decide_eq_false (fun q=>nomatch q)
def zqz (prog:Program) (w:World):PySem.KeyKind prog w Key where
 is:=keyIs
 hash:=keyH w
 inj:=fun v a b ha hb=>by
  rcases G1 ha with⟨i,t,rfl,rfl⟩ | ⟨x,t,rfl,rfl⟩
  ·rcases G1 hb with⟨j,u,rfl,e⟩ | ⟨y,u,rfl,e⟩
   ·injection e with e1 _;rw [e1]
   ·exact nomatch e
  ·rcases G1 hb with⟨j,u,rfl,e⟩ | ⟨y,u,rfl,e⟩
   ·exact nomatch e
   ·injection e with e1 _;rw [e1]
 byValue:=fun k v h=>by
  rcases G1 h with⟨i,t,rfl,rfl⟩ | ⟨x,t,rfl,rfl⟩ <;> rfl
 pyHash:=fun hv h=>by
  rcases G1 hv with⟨i,t,rfl,rfl⟩ | ⟨x,t,rfl,rfl⟩
  ·exact wpAny_pyHash_int h
  ·exact wpAny_pyHash_str h
 eqBool:=fun hu hv h=>by
  rcases G1 hu with⟨i,t,rfl,rfl⟩ | ⟨x,t,rfl,rfl⟩
  ·rcases G1 hv with⟨j,u,rfl,rfl⟩ | ⟨y,u,rfl,rfl⟩
   ·rw [key_ll] at h;exact wpAny_eqBool_int h
   ·rw [key_lr] at h;exact SeqAt.EqAt.int_str i t y u _ _ _ _ h
  ·rcases G1 hv with⟨j,u,rfl,rfl⟩ | ⟨y,u,rfl,rfl⟩
   ·rw [key_rl] at h;exact SeqAt.EqAt.str_int x t j u _ _ _ _ h
   ·rw [key_rr] at h;exact wpAny_eqBool_str h
 «strs» := fun k x t v h=>by
  rcases G1 h with⟨i,u,rfl,e⟩ | ⟨y,u,rfl,e⟩
  ·exact nomatch e
  ·injection e with e1 _
   subst e1;cases v <;> rfl
end L2
namespace L2
open PySem PySem.Spec PyProof.Rows
set_option genInjectivity true in
inductive V where
 | non | bl (b:Bool) | int (i:Int) | str (x:Str) | byt (b:Array UInt8) | flt (b:UInt64) | ref (a:Addr) | ty (n:String)
 deriving DecidableEq
def RelV:V->Value->Prop
 | .non,u=>u=Value.none
 | .bl b,u=>u=Value.bool b
 | .int i,u=>∃ t,u=Value.int i t
 | .str x,u=>∃ t,u=Value.str x t
 | .byt b,u=>∃ t,u=Value.bytes b t
 | .flt b,u=>∃ t,u=Value.float b t
 | .ref a,u=>u=Value.ref a
 | .ty n,u=>u=Value.type n
abbrev Vals:List V->List Value->Prop:=Paired RelV
theorem Vals.length {xs:List V} {us:List Value} (r:Vals xs us):xs.length=us.length:=Paired.length r
theorem Vals.get:∀ {xs:List V} {us:List Value} {i:Nat} {x:V},Vals xs us->xs[i]? = some x->∃ u,us[i]? = some u/\RelV x u
 | _,_,_,_,.nil,e=>by simp at e
 | _,_,0,_,.cons r _,e=>by simp at e;subst e;exact⟨_,rfl,r⟩
 | _,_,i+1,x,.cons _ t,e=>by
  obtain⟨u,h1,h2⟩:=Vals.get (i:=i) (x:=x) t (by simpa using e)
  exact⟨u,by simpa using h1,h2⟩
theorem Vals.set {x:V} {u:Value} (r:RelV x u):∀ {xs:List V} {us:List Value} (i:Nat),Vals xs us->Vals (xs.set i x) (us.set i u)
 | _,_,_,.nil=>.nil
 | _,_,0,.cons _ t=>.cons r t
 | _,_,i+1,.cons q t=>.cons q (Vals.set r i t)
theorem Vals.append:∀ {xs ys:List V} {us ws:List Value},Vals xs us->Vals ys ws->Vals (xs++ys) (us++ws)
 | _,_,_,_,.nil,s=>s
 | _,_,_,_,.cons r t,s=>.cons r (Vals.append t s)
theorem Vals.take:∀ {xs:List V} {us:List Value} (n:Nat),Vals xs us->Vals (xs.take n) (us.take n)
 | _,_,0,_=>.nil
 | _,_,_+1,.nil=>.nil
 | _,_,n+1,.cons r t=>.cons r (Vals.take n t)
theorem Vals.drop:∀ {xs:List V} {us:List Value} (n:Nat),Vals xs us->Vals (xs.drop n) (us.drop n)
 | _,_,0,r=>r
 | _,_,_+1,.nil=>.nil
 | _,_,n+1,.cons _ t=>Vals.drop n t
def RelO:Option V->Option Value->Prop
 | some v,some u=>RelV v u
 | none,none=>True
 | _,_=>False
def KV {κ:Type}:List (κ×V)->List (κ×Value)->Prop:=Paired fun (p:κ×V) (q:κ×Value)=>p.1=q.1/\RelV p.2 q.2
def kV:Key->V
 | .inl i=>.int i
 | .inr x=>.str x
inductive HO where
  | lst (xs:List V)
  | tup (xs:List V)
  | dK (kvs:List (Key×V)) | dT (kvs:List (List Key×V))
  | set (S:Int->Bool) (n:Nat)
  | ins (C dx:Addr) (fs:List (Str×V))
  | own (x:Addr)
  | xd (fs:List (Str×V))
  | met (f x:Addr)
  | rng (lo hi:Int)
  | frz (o:Obj) (u:HO)
  | tbl (ps:Array Value)
  | ext (φ:Heap->Prop)
abbrev Hp:=Addr->Option HO
def upd (H:Hp) (a:Addr) (o:HO):Hp:=fun b=>if b=a then some o else H b
theorem Gj {H:Hp} {a:Addr} {o:HO}:upd H a o a=some o:=by unfold upd;rw [if_pos rfl]
theorem Gh {H:Hp} {a b:Addr} {o:HO} (h:b≠a):upd H a o b=H b:=by unfold upd;rw [if_neg h]
theorem zae {H:Hp} {a b:Addr} {o:HO} (h:H a=some o) (h':H b=none):a≠b:=by
 intro e;subst e;rw [h] at h';cases h'
section
variable (P:Program) (w:World)
def ObjOk (H:Hp) (h:Heap) (a:Addr):HO->Prop
 | .lst xs=>xs.length<=sizeLine/\∃ (its:List Value) (n:Nat),Vals xs its/\h.get? a=some {cls:=.type "list", data:=.seq its.toArray n}
 | .tup xs=>xs.length<=sizeLine/\∃ its:List Value,Vals xs its/\IsTup h a its.toArray
 | .dK kvs=>kvs.length<=sizeLine/\(a == sysModules)=false/\∃ vs,KV kvs vs/\h.DictOf (zqz P w) a vs
 | .dT kvs=>kvs.length<=sizeLine/\(a == sysModules)=false/\∃ xs:List (List Key×Addr×Value),
   Paired (fun (p:List Key×V) (q:List Key×Addr×Value)=>p.1=q.1/\H q.2.1=some (.tup (p.1.map kV))/\RelV p.2 q.2.2) kvs xs /\
   ∃ o es ep,h.get? a=some o/\o.ExactDict/\o.data=.dict es ep/\es.toList=xs.map (entryOfKey (tupleKind (zqz P w)))/\(xs.map (·.1)).Nodup
 | .set S n=>h.SetOf (intKind P w) a S n
 | .ins C dx fs=>H dx=some (.own a)/\fs.length<=1000/\dx≠a/\h.get? a=some (PySem.W.instObj C dx) /\
   ∃ mA,h.Ns1 dx mA/\(∀ f,RelO (fs.lookup f) (mA f))/\PySem.Within mA (fs.map (·.1))
 | .own _=>∃ o,h.get? a=some o
 | .xd fs=>∃ mA,h.Ns1 a mA/\∀ f,RelO (fs.lookup f) (mA f)
 | .rng lo hi=>∃ t u v,h.get? a=some {cls:=.type "range", data:=.fields #[.int lo t,.int hi u,.int 1 v]}
 | .frz o u=>h.get? a=some o/\ObjOk H h a u
 | .tbl ps=>h.get? a=some {cls:=.none,data:=.fields ps}
 | .met f x=>h.get? a=some (PySem.W.methodObj (.ref f) (.ref x))
 | .ext φ=>φ h/\(∃ o,h.get? a=some o)/\∀ h1 h2:Heap,φ h1->(∀ o,h1.get? a=some o->h2.get? a=some o)->φ h2
def HOk (H:Hp) (h:Heap):Prop:=∀ a o,H a=some o->ObjOk P w H h a o
end
section
variable {P:Program} {w:World} {H H':Hp} {h h':Heap} {a:Addr} {o:HO}
theorem ObjOk.lt (x:ObjOk P w H h a o):a<h.objs.size:=by
 cases o with
 | lst xs=>obtain⟨_,_,_,_,e⟩:=x;exact Zs e
 | tup xs=>obtain⟨_,_,_,p⟩:=x;exact p.lt
 | dK kvs=>obtain⟨_,_,_,_,o,_,_,e,_⟩:=x;exact Zs e
 | dT kvs=>obtain⟨_,_,_,_,o,_,_,e,_⟩:=x;exact Zs e
 | set S n=>obtain⟨o,_,_,_,e,_⟩:=x;exact Zs e
 | ins C dx fs=>obtain⟨_,_,_,e,_⟩:=x;exact Zs e
 | own y=>obtain⟨_,e⟩:=x;exact Zs e
 | xd fs=>obtain⟨_,⟨_,_,_,e,_⟩,_⟩:=x;exact Zs e
 | rng lo hi=>obtain⟨_,_,_,e⟩:=x;exact Zs e
 | frz ob u=>obtain⟨e,_⟩:=x;exact Zs e
 | tbl ps=>exact Zs (show h.get? a=some _ from x)
 | met f y=>exact Zs (show h.get? a=some _ from x)
 | ext φ=>obtain⟨_,⟨_,e⟩,_⟩:=x;exact Zs e
theorem Paired.mapP {α β:Type} {F G:α->β->Prop}:∀ {l₁:List α} {l₂:List β},Paired F l₁ l₂->(∀ a b,F a b->G a b)->Paired G l₁ l₂:=fun h f=>by
 induction h with
 | nil=>exact .nil
 | cons r t ih=>exact .cons (f _ _ r) ih
theorem ObjOk.stay (x:ObjOk P w H h a o) (k:∀ b u,(b=a\/H b=some (.own a))->h.get? b=some u->h'.get? b=some u)
  (ho:∀ b,H b=some (.own a)->H' b=some (.own a)) (ht:∀ b xs,H b=some (.tup xs)->H' b=some (.tup xs)):ObjOk P w H' h' a o:=by
 induction o with
 | lst xs=>obtain⟨z,its,n,r,e⟩:=x;exact⟨z,its,n,r,k _ _ (.inl rfl) e⟩
 | tup xs=>obtain⟨z,its,r,ob,e,c⟩:=x;exact⟨z,its,r,ob,k _ _ (.inl rfl) e,c⟩
 | dK kvs=>obtain⟨z,y,vs,r,ob,es,ep,e,c⟩:=x;exact⟨z,y,vs,r,ob,es,ep,k _ _ (.inl rfl) e,c⟩
 | dT kvs=>
  obtain⟨z,y,xs,r,ob,es,ep,e,c⟩:=x
  exact⟨z,y,xs,Paired.mapP r fun p q z=>⟨z.1,ht _ _ z.2.1,z.2.2⟩,ob,es,ep,k _ _ (.inl rfl) e,c⟩
 | set S n=>obtain⟨ob,es,ep,t,e,c⟩:=x;exact⟨ob,es,ep,t,k _ _ (.inl rfl) e,c⟩
 | ins C dx fs=>
  obtain⟨d,z,ne,e,mA,⟨od,es,ep,e2,c⟩,r⟩:=x
  exact⟨ho _ d,z,ne,k _ _ (.inl rfl) e,mA,⟨od,es,ep,k _ _ (.inr d) e2,c⟩,r⟩
 | own y=>obtain⟨ob,e⟩:=x;exact⟨ob,k _ _ (.inl rfl) e⟩
 | xd fs=>obtain⟨mA,⟨od,es,ep,e,c⟩,r⟩:=x;exact⟨mA,⟨od,es,ep,k _ _ (.inl rfl) e,c⟩,r⟩
 | rng lo hi=>obtain⟨t,u,v,e⟩:=x;exact⟨t,u,v,k _ _ (.inl rfl) e⟩
 | frz ob u ih=>obtain⟨e,q⟩:=x;exact⟨k _ _ (.inl rfl) e,ih q⟩
 | tbl ps=>
  have e:h.get? a=some {cls:=.none,data:=.fields ps}:=x;show h'.get? a=some {cls:=.none,data:=.fields ps};exact k a _ (.inl rfl) e
 | met f y=>
  have e:h.get? a=some (PySem.W.methodObj (.ref f) (.ref y)):=x;show h'.get? a=some (PySem.W.methodObj (.ref f) (.ref y));exact k a _ (.inl rfl) e
 | ext φ=>obtain⟨p,⟨o,e⟩,st⟩:=x;exact⟨st _ _ p fun o q=>k _ _ (.inl rfl) q,⟨o,k _ _ (.inl rfl) e⟩,st⟩
theorem HOk.lt (x:HOk P w H h) (e:H a=some o):a<h.objs.size:=(x a o e).lt
theorem HOk.fresh (x:HOk P w H h) (e:h.objs.size<=a):H a=none:=by
 cases q:H a with
 | none=>rfl
 | some u=>exact absurd (Zd (x.lt q) e) (Nat.lt_irrefl _)
theorem HOk.kept (x:HOk P w H h) (k:∀ b u,h.get? b=some u->h'.get? b=some u):HOk P w H h':=fun a o e=>
 (x a o e).stay (fun b u _ q=>k b u q) (fun _ q=>q) fun _ _ q=>q
theorem HOk.laid (x:HOk P w H h) (k:∀ b u,h.get? b=some u->h'.get? b=some u) (hp:h.objs.size<=a) (new:ObjOk P w (upd H a o) h' a o):HOk P w (upd H a o) h':=fun b u e=>by
 have hn:=x.fresh hp;by_cases hb:b=a
 ·subst hb;rw [Gj] at e;cases e;exact new
 ·rw [Gh hb] at e;exact (x b u e).stay (fun c v _ q=>k c v q) (fun c q=>by rw [Gh (zae q hn)];exact q) fun c xs q=>by rw [Gh (zae q hn)];exact q
end
def Rd (H:Hp) (a:Addr) (u:HO):Prop:=H a=some u\/∃ o,H a=some (.frz o u)
theorem Rd.of {H:Hp} {a:Addr} {u:HO} (h:H a=some u):Rd H a u:=.inl h
theorem Rd.ok {P:Program} {w:World} {H:Hp} {h:Heap} {a:Addr} {u:HO} (r:Rd H a u) (x:HOk P w H h):ObjOk P w H h a u:=by
 rcases r with r | ⟨o,r⟩
 ·exact x a u r
 ·obtain⟨_,q⟩:=x a _ r
  exact q
def Mut:Option HO->Prop
 | some (.lst _)=>True
 | some (.dK _)=>True
 | some (.dT _)=>True
 | some (.set _ _)=>True
 | some (.ins _ _ _)=>True
 | some (.ext _)=>True
 | _=>False
section
variable {P:Program} {w:World} {H:Hp} {h h':Heap} {x e:Addr} {o':HO}
theorem HOk.write (ok:HOk P w H h) (mu:Mut (H x)) (he:e=x\/H e=some (.own x)) (k:∀ b u,b≠e->h.get? b=some u->h'.get? b=some u) (heo:∃ u,h'.get? e=some u)
  (new:ObjOk P w (upd H x o') h' x o'):HOk P w (upd H x o') h':=fun b u q=>by
 have nown:∀ c y,H c=some (.own y)->c≠x:=fun c y r z=>by subst z;rw [r] at mu;exact mu
 have ntup:∀ c xs,H c=some (.tup xs)->c≠x:=fun c xs r z=>by subst z;rw [r] at mu;exact mu
 by_cases hb:b=x
 ·subst hb;rw [Gj] at q;cases q;exact new
 ·rw [Gh hb] at q;by_cases hbe:b=e
  ·have q':H b=some (.own x):=by
    rcases he with z | z
    ·exact absurd (hbe.trans z) hb
    ·rw [hbe];exact z
   rw [q] at q';cases q';obtain⟨v,hv⟩:=heo
   exact⟨v,by rw [hbe];exact hv⟩
  ·refine (ok b u q).stay (fun c v hc r=>k c v ?_ r) (fun c r=>by rw [Gh (nown c b r)];exact r) fun c xs r=>by rw [Gh (ntup c xs r)];exact r
   rcases hc with rfl | hc
   ·exact hbe
   ·rintro rfl
    rcases he with z | z
    ·exact nown c b hc z
    ·rw [hc] at z;cases z;exact hb rfl
end
structure Un (fs ex:List Addr) (H H':Hp) (h h':Heap):Prop where
 keep:∀ b o,h.get? b=some o->H b=none->b∉fs->b∉ex->h'.get? b=some o
 slot:∀ b o,h.get? b=some o->H b=none->b∈fs->b∉ex->∃ sl,h'.get? b=some {o with slots:=sl}
 free:∀ b o,h.get? b=some o->H b=none->b∉ex->H' b=none
 there:∀ b o,h.get? b=some o->b∉ex->∃ o',h'.get? b=some o'
 tups:∀ b xs,H b=some (.tup xs)->H' b=some (.tup xs)
 frzs:∀ b o u,H b=some (.frz o u)->H' b=some (.frz o u)
 tbls:∀ b ps,H b=some (.tbl ps)->∃ more,H' b=some (.tbl (ps++more))
section
variable {fs fs' ex ex':List Addr} {H H1 H2:Hp} {h h1 h2 h':Heap} {a x e:Addr} {o:HO}
theorem Un.any (u:Un fs ex H H1 h h1) {b:Addr} {ob:Obj} (q:h.get? b=some ob) (n:H b=none) (hx:b∉ex):∃ sl,h1.get? b=some {ob with slots:=sl}:=by
 by_cases hb:b∈fs
 ·exact u.slot b ob q n hb hx
 ·exact⟨ob.slots,u.keep b ob q n hb hx⟩
theorem Un.trans (a:Un fs ex H H1 h h1) (b:Un fs ex H1 H2 h1 h2):Un fs ex H H2 h h2 where
 keep:=fun c ob q n hc hx=>b.keep c ob (a.keep c ob q n hc hx) (a.free c ob q n hx) hc hx
 slot:=fun c ob q n hc hx=>by
  obtain⟨sl,e1⟩:=a.slot c ob q n hc hx
  obtain⟨sl',e2⟩:=b.slot c _ e1 (a.free c ob q n hx) hc hx
  exact⟨sl',e2⟩
 free:=fun c ob q n hx=>by
  obtain⟨o',e1⟩:=a.there c ob q hx
  exact b.free c o' e1 (a.free c ob q n hx) hx
 there:=fun c ob q hx=>by
  obtain⟨o',e1⟩:=a.there c ob q hx
  exact b.there c o' e1 hx
 tups:=fun c xs q=>b.tups c xs (a.tups c xs q)
 frzs:=fun c ob xs q=>b.frzs c ob xs (a.frzs c ob xs q)
 tbls:=fun c ps q=>by
  obtain⟨m1,e1⟩:=a.tbls c ps q
  obtain⟨m2,e2⟩:=b.tbls c _ e1
  exact⟨m1++m2,by rw [e2,Vf]⟩
theorem Un.kept (k:∀ b u,h.get? b=some u->h'.get? b=some u):Un fs ex H H h h':=
 ⟨fun b ob q _ _ _=>k b ob q,fun b ob q _ _ _=>⟨ob.slots,k b ob q⟩,fun _ _ _ n _=>n,fun b ob q _=>⟨ob,k b ob q⟩,fun _ _ q=>q,fun _ _ _ q=>q,fun _ ps q=>⟨#[],by rw [q];simp⟩⟩
theorem Un.refl:Un fs ex H H h h:=Un.kept fun _ _ q=>q
theorem Un.laid (k:∀ b u,h.get? b=some u->h'.get? b=some u) (hp:h.objs.size<=a) (hn:H a=none):Un fs ex H (upd H a o) h h' where
 keep:=fun b u q _ _ _=>k b u q
 slot:=fun b u q _ _ _=>⟨u.slots,k b u q⟩
 free:=fun b u q n _=>by rw [Gh (Z8 (Zd (Zs q) hp))];exact n
 there:=fun b u q _=>⟨u,k b u q⟩
 tups:=fun b xs q=>by rw [Gh (zae q hn)];exact q
 frzs:=fun b u xs q=>by rw [Gh (zae q hn)];exact q
 tbls:=fun b ps q=>⟨#[],by rw [Gh (zae q hn),q];simp⟩
theorem Un.write (mu:Mut (H x)) (he:e=x\/H e=some (.own x)) (k:∀ b u,b≠e->h.get? b=some u->h'.get? b=some u) (heo:∃ u,h'.get? e=some u):Un fs ex H (upd H x o) h h':=by
 have hx:∀ b,H b=none->b≠x:=fun b n z=>by subst z;rw [n] at mu;exact mu
 have hb:∀ b,H b=none->b≠e:=fun b n z=>by
  subst z;rcases he with r | r
  ·exact hx b n r
  ·rw [n] at r;cases r
 have hm:∀ b u,H b=some u -> ¬ Mut (some u)->b≠x:=fun b u q nm z=>by subst z;rw [q] at mu;exact nm mu
 refine⟨fun b u q n _ _=>k b u (hb b n) q,fun b u q n _ _=>⟨u.slots,k b u (hb b n) q⟩,fun b u q n _=>by rw [Gh (hx b n)];exact n,fun b u q _=>?_,
  fun b xs q=>by rw [Gh (hm b _ q fun z=>z)];exact q,fun b u xs q=>by rw [Gh (hm b _ q fun z=>z)];exact q,fun b ps q=>⟨#[],by rw [Gh (hm b _ q fun z=>z),q];simp⟩⟩
 by_cases hbe:b=e
 ·subst hbe;exact heo
 ·exact⟨u,k b u hbe q⟩
theorem Un.mono (u:Un fs ex H H1 h h1) (hs:∀ b∈fs,b∈fs') (hx:∀ b∈ex,b∈ex'):Un fs' ex' H H1 h h1:=
 ⟨fun b ob q n hb he=>u.keep b ob q n (fun z=>hb (hs b z)) fun z=>he (hx b z),fun _ _ q n _ he=>u.any q n fun z=>he (hx _ z),fun b ob q n he=>u.free b ob q n fun z=>he (hx b z),fun b ob q he=>u.there b ob q fun z=>he (hx b z),u.tups,u.frzs,u.tbls⟩
end
def trk (h:Heap) (H:Hp):List Addr:=(List.range h.objs.size).filter fun a=>(H a).isSome
def hidT (h:Heap) (H:Hp):Heap:=PySem.W.hideAll h (trk h H)
theorem zro (h:Heap) (H:Hp):(hidT h H).objs.size=h.objs.size:=PySem.W.hideAll_size _ _
theorem zvw {h:Heap} {H:Hp} {b:Addr} {o:Obj} (e:h.get? b=some o) (n:H b=none):(hidT h H).get? b=some o:=
 PySem.W.hideAll_get _ e fun hm=>by
  have q:(H b).isSome=true:=(List.mem_filter.mp hm).2;rw [n] at q;simp at q
theorem ybk {h:Heap} {H:Hp} {b:Addr} {o:Obj} (e:(hidT h H).get? b=some o):h.get? b=some o/\H b=none:=by
 have e':h.get? b=some o:=PySem.W.of_hideAll (trk h H) e;refine⟨e',?_⟩
 cases q:H b with
 | none=>rfl
 | some x=>
  have hm:b∈trk h H:=List.mem_filter.mpr ⟨Uo.mpr (Zs e'),by simp [q]⟩;have z:(hidT h H).get? b=none:=PySem.W.hideAll_none (trk h H) hm;rw [z] at e;cases e
end L2
namespace L2
open PySem PySem.Spec PyProof.Rows
structure Mod (K:PySem.W.Frag) (mg:Str->Option Value) (base:Heap):Prop where
 kin:K.In base
 glob:base.Ns mainGlobals mg
 blt:∃ mb,base.Ns builtinsNs mb/\∀ x:Str,x ≠ "__name__" -> mb x=bootBuiltins x
 nolimit:base.NoLimit
structure Cx where
 prog:Program
 w:World
 K:PySem.W.Frag
 mg:Str->Option Value
 base:Heap
 A:Around
 N:List Str
 s₀:Shared
 H₀:Hp
 env:Env
 outer:List Env
 stack:List Env
 ex:List Addr
 fn:Str->Bool
 calm:Bool
 pn:List (Addr×Obj)
 xe:Value->Shared->Prop
def frs (l:List Env):List Addr:=l.filterMap (·.frame)
abbrev Cx.fs (X:Cx):List Addr:=frs X.outer
def Vis (sc:Scope) (x:Str):Prop:=sc.names.lookup x=some .local\/sc.names.lookup x=some .cell\/sc.names.lookup x=some .free
def Loc (sc:Scope) (x:Str):Prop:=sc.names.lookup x=some .local\/sc.names.lookup x=some .cell
def Look (env:Env) (h:Heap) (m:Str->Option Value) (x:Str) (u:Value):Prop:=
 (env.kindOf x=some .local/\m x=some u)\/((env.kindOf x=some .cell\/env.kindOf x=some .free)/\∃ c,env.cells.lookup x=some c/\h.IsCell c (some u))
structure Cx.Ok (X:Cx):Prop where
 mod:Mod X.K X.mg X.base
 kind:X.env.scope.kind=.function
 glob:X.env.globals=mainGlobals
 blt:X.env.builtins=builtinsNs
 above:X.s₀.heap.objs.size<=X.env.locals
 inj:∀ x y c,X.env.cells.lookup x=some c->X.env.cells.lookup y=some c->x=y
 has:∀ x,(X.env.kindOf x=some .cell\/X.env.kindOf x=some .free)->∃ c,X.env.cells.lookup x=some c
 cab:∀ x c,X.fn x=true->X.env.cells.lookup x=some c->X.s₀.heap.objs.size<=c
 hd:X.calm=true->X.A.handled=none
 frames:X.A.frames=some X.stack
 stk:X.stack=X.outer\/(X.stack=X.env::X.outer/\X.env.frame=some X.env.locals)
 exf:∀ b∈X.ex,b≠X.env.locals/\∀ x c,X.env.cells.lookup x=some c->c≠b
 bs:∀ b o,X.base.get? b=some o->X.s₀.heap.get? b=some o/\X.H₀ b=none
 bsz:X.base.objs.size<=X.s₀.heap.objs.size
 noex:∀ b o,X.base.get? b=some o->b∉X.ex
 exfs:∀ b∈X.ex,b∉X.fs
 funs:X.s₀.heap.FunFrames X.base X.outer
 frf:∀ b∈X.fs,X.H₀ b=none
structure Inv (X:Cx) (pins:List (Addr×Obj)) (σ:List (Option V)) (H:Hp) (s:Shared):Prop where
 ok:X.Ok
 os:s.os=X.s₀.os
 bare:AllBare s.gens
 base:Un X.fs X.ex X.H₀ H X.s₀.heap s.heap
 loc:∃ m,s.heap.Ns X.env.locals m/\∀ (i:Nat) (x:Str) (v:V),X.N[i]? = some x->σ[i]? = some (some v)->Vis X.env.scope x->∃ u,RelV v u/\Look X.env s.heap m x u
 cell:∀ x c,X.env.cells.lookup x=some c->∃ v,s.heap.IsCell c v
 free:H X.env.locals=none
 freeC:∀ x c,X.env.cells.lookup x=some c->H c=none
 pin:∀ p∈X.pn++pins,s.heap.get? p.1=some p.2/\H p.1=none/\p.1≠X.env.locals/\p.1∉X.fs/\∀ v,p.2.data ≠ .cell v
 hok:HOk X.prog X.w H s.heap
 len:σ.length=X.N.length
section
variable {X:Cx} {pins:List (Addr×Obj)} {σ:List (Option V)} {H H':Hp} {s:Shared} {h':Heap}
theorem Cx.Ok.nofr (ok:X.Ok) {b:Addr} {o:Obj} (e:X.base.get? b=some o):b∉X.fs:=fun hb=>by
 have:=(ok.funs.mem hb).1
 rw [e] at this;cases this
theorem Inv.bs (I:Inv X pins σ H s):∀ b o,X.base.get? b=some o->s.heap.get? b=some o/\H b=none:=fun b o e=>
 ⟨I.base.keep b o (I.ok.bs b o e).1 (I.ok.bs b o e).2 (I.ok.nofr e) (I.ok.noex b o e),I.base.free b o (I.ok.bs b o e).1 (I.ok.bs b o e).2 (I.ok.noex b o e)⟩
theorem Inv.bk (I:Inv X pins σ H s):∀ b o,X.base.get? b=some o->s.heap.get? b=some o:=fun b o e=>(I.bs b o e).1
theorem Inv.mod (I:Inv X pins σ H s):Mod X.K X.mg X.base:=I.ok.mod
theorem Inv.kIn (I:Inv X pins σ H s):X.K.In s.heap:=I.ok.mod.kin.keeps I.bk
theorem Inv.fr (I:Inv X pins σ H s):∃ m,Fr X.base X.env.locals s.heap m:=
 let ⟨m,hn,_⟩:=I.loc
 ⟨m,hn,I.bk,Ya I.ok.bsz I.ok.above⟩
theorem Inv.lt (I:Inv X pins σ H s):X.env.locals<s.heap.objs.size:=let ⟨_,hn,_⟩:=I.loc;hn.lt
theorem Inv.sz (I:Inv X pins σ H s):X.s₀.heap.objs.size<=s.heap.objs.size:=Ya I.ok.above (Ja I.lt)
theorem Inv.nofs (I:Inv X pins σ H s) {a:Addr} (h:s.heap.objs.size<=a):a∉X.fs:=fun hb=>by
 obtain⟨_,o,ho,_⟩:=I.ok.funs.mem hb
 exact absurd (Zd (Zs ho) (Ya I.sz h)) (Nat.lt_irrefl _)
theorem Inv.cne (I:Inv X pins σ H s):∀ x c,X.env.cells.lookup x=some c->c≠X.env.locals:=fun x c e z=>by
 obtain⟨v,o,ho,hd⟩:=I.cell x c e
 obtain⟨m,⟨o',es,ep,ho',hd',_⟩,_⟩:=I.loc
 rw [z,ho'] at ho;cases ho;rw [hd'] at hd;cases hd
theorem Inv.funs (I:Inv X pins σ H s):s.heap.FunFrames X.base X.outer:=by
 have all:∀ (l:List Env),(∀ b∈frs l,b∈X.fs)->X.s₀.heap.FunFrames X.base l->s.heap.FunFrames X.base l:=by
  intro l;induction l with
  | nil=>intro _ _;trivial
  | cons env r ih=>
   intro hs hl;obtain⟨hk,⟨L,o,hf,hn,ho,hd⟩,hr⟩:=hl
   have hL:L∈X.fs:=hs L (by unfold frs;rw [Km,hf];exact Wi);obtain⟨sl,e⟩:=I.base.slot L o ho (I.ok.frf L hL) hL fun z=>I.ok.exfs L z hL
   exact⟨hk,⟨L,_,hf,hn,e,hd⟩,ih (fun b hb=>hs b (by unfold frs;rw [Km,hf];exact Yp _ hb)) hr⟩
 exact all X.outer (fun _ hb=>hb) I.ok.funs
theorem Inv.stack (I:Inv X pins σ H s):s.heap.FunFrames X.base X.stack:=by
 rcases I.ok.stk with e | ⟨e,hf⟩
 ·rw [e];exact I.funs
 ·rw [e];obtain⟨m,hn,_⟩:=I.loc
  refine .cons (by rw [I.ok.kind];decide) hf hn ?_ I.funs;exact Jb (Ya I.ok.bsz I.ok.above)
theorem Inv.stkSub (I:Inv X pins σ H s):∀ b∈frs X.stack,b∈X.env.locals::X.fs:=fun b hb=>by
 rcases I.ok.stk with e | ⟨e,hf⟩
 ·rw [e] at hb;exact Yp _ hb
 ·rw [e] at hb;unfold frs at hb;rw [Km,hf] at hb;exact hb
theorem Inv.stkFree (I:Inv X pins σ H s):∀ b∈frs X.stack,H b=none:=fun b hb=>by
 rcases Zf.mp (I.stkSub b hb) with e | hb
 ·rw [e];exact I.free
 ·obtain⟨_,o,ho,_⟩:=I.ok.funs.mem hb
  exact I.base.free b o ho (I.ok.frf b hb) fun z=>I.ok.exfs b z hb
theorem Inv.step {g':Array GenState} {t':Nat} {d':Drawn} {ch:List Addr} (I:Inv X pins σ H s)
  (hch:∀ b∈ch,(b∈X.ex\/X.s₀.heap.objs.size<=b)/\b≠X.env.locals/\(∀ x c,X.env.cells.lookup x=some c->c≠b)/\∀ p∈X.pn++pins,p.1≠b)
  (keep:∀ b o,b≠X.env.locals->b∉X.fs->b∉ch->s.heap.get? b=some o->H b=none->h'.get? b=some o)
  (slot:∀ b o,b≠X.env.locals->b∈X.fs->b∉ch->s.heap.get? b=some o->H b=none->∃ sl,h'.get? b=some {o with slots:=sl}) (free:∀ b o,b∉ch->s.heap.get? b=some o->H b=none->H' b=none)
  (there:∀ b o,b∉ch->s.heap.get? b=some o->∃ o',h'.get? b=some o')
  (tups:∀ b xs,H b=some (.tup xs)->H' b=some (.tup xs)) (frzs:∀ b o u,H b=some (.frz o u)->H' b=some (.frz o u)) (tbls:∀ b ps,H b=some (.tbl ps)->∃ more,H' b=some (.tbl (ps++more)))
  (ns:∀ m,s.heap.Ns X.env.locals m->h'.Ns X.env.locals m) (hok:HOk X.prog X.w H' h') (hg:AllBare g') :
  Inv X pins σ H' {s with heap:=h',gens:=g',drawn:=d',toks:=t'}:=by
 have neL:∀ b o,X.s₀.heap.get? b=some o->b≠X.env.locals:=fun b o e=>Z8 (Zd (Zs e) I.ok.above)
 have neC:∀ b o,X.s₀.heap.get? b=some o->b∉X.ex->b∉ch:=fun b o e hx hb=>by
  rcases (hch b hb).1 with z | z
  ·exact hx z
  ·exact absurd (Zd (Zs e) z) (Nat.lt_irrefl _)
 have cellK:∀ x c,X.env.cells.lookup x=some c->∀ v,s.heap.IsCell c v->h'.IsCell c v:=fun x c e v ⟨o,ho,hd⟩=>by
  have nch:c∉ch:=fun z=>(hch c z).2.2.1 x c e rfl
  by_cases hc:c∈X.fs
  ·obtain⟨sl,q⟩:=slot c o (I.cne x c e) hc nch ho (I.freeC x c e)
   exact⟨_,q,hd⟩
  ·exact⟨o,keep c o (I.cne x c e) hc nch ho (I.freeC x c e),hd⟩
 refine⟨I.ok,I.os,hg,⟨fun b o e n hb hx=>?_,fun b o e n hb hx=>?_,fun b o e n hx=>?_,fun b o e hx=>?_,fun b xs e=>tups b xs (I.base.tups b xs e),fun b o xs e=>frzs b o xs (I.base.frzs b o xs e),fun b ps e=>?_⟩,?_,fun x c e=>?_,?_,fun x c e=>?_,fun p hp=>?_,hok,I.len⟩
 ·exact keep b o (neL b o e) hb (neC b o e hx) (I.base.keep b o e n hb hx) (I.base.free b o e n hx)
 ·obtain⟨sl,e1⟩:=I.base.slot b o e n hb hx
  obtain⟨sl',e2⟩:=slot b _ (neL b o e) hb (neC b o e hx) e1 (I.base.free b o e n hx)
  exact⟨sl',e2⟩
 ·obtain⟨o',e1⟩:=I.base.there b o e hx
  exact free b o' (neC b o e hx) e1 (I.base.free b o e n hx)
 ·obtain⟨o',e1⟩:=I.base.there b o e hx
  exact there b o' (neC b o e hx) e1
 ·obtain⟨m1,e1⟩:=I.base.tbls b ps e
  obtain⟨m2,e2⟩:=tbls b _ e1
  exact⟨m1++m2,by rw [e2,Vf]⟩
 ·obtain⟨m,hn,hl⟩:=I.loc
  refine⟨m,ns m hn,fun i x v e1 e2 e3=>?_⟩
  obtain⟨u,r,l⟩:=hl i x v e1 e2 e3
  refine⟨u,r,?_⟩
  rcases l with l | ⟨k,c,e,z⟩
  ·exact .inl l
  ·exact .inr ⟨k,c,e,cellK x c e _ z⟩
 ·obtain⟨v,z⟩:=I.cell x c e
  exact⟨v,cellK x c e v z⟩
 ·obtain⟨m,⟨o,_,_,ho,_⟩,_⟩:=I.loc
  exact free _ o (fun z=>(hch _ z).2.1 rfl) ho I.free
 ·obtain⟨v,o,ho,hd⟩:=I.cell x c e
  exact free c o (fun z=>(hch c z).2.2.1 x c e rfl) ho (I.freeC x c e)
 ·obtain⟨e,n,ne,nf,d⟩:=I.pin p hp
  have nch:p.1∉ch:=fun z=>(hch p.1 z).2.2.2 p hp rfl
  exact⟨keep p.1 p.2 ne nf nch e n,free p.1 p.2 nch e n,ne,nf,d⟩
theorem Inv.un {t':Nat} (I:Inv X pins σ H s) (u:Un X.fs [] H H' s.heap h') (hok:HOk X.prog X.w H' h'):Inv X pins σ H' {s with heap:=h',toks:=t'}:=by
 obtain⟨m,⟨o,es,ep,ho,r⟩,_⟩:=id I.loc
 obtain⟨sl,hL⟩:=u.any ho I.free (by simp)
 exact I.step (g':=s.gens) (d':=s.drawn) (ch:=[]) (fun _ z=>nomatch z) (fun b o _ hb _ e n=>u.keep b o e n hb (by simp)) (fun b o _ hb _ e n=>u.slot b o e n hb (by simp)) (fun b o _ e n=>u.free b o e n (by simp)) (fun b o _ e=>u.there b o e (by simp)) u.tups u.frzs u.tbls (fun m' hm=>by
  obtain⟨o',es',ep',ho',r'⟩:=hm
  rw [ho] at ho';cases ho';exact⟨_,es',ep',hL,r'⟩) hok I.bare
theorem Inv.call {g':Array GenState} {t':Nat} {d':Drawn} {ch:List Addr} (I:Inv X pins σ H s) (u:Un (frs X.stack) ch H H' s.heap h') (hok:HOk X.prog X.w H' h') (hg:AllBare g')
  (hch:∀ b∈ch,(b∈X.ex\/X.s₀.heap.objs.size<=b)/\b≠X.env.locals/\(∀ x c,X.env.cells.lookup x=some c->c≠b)/\∀ p∈X.pn++pins,p.1≠b) :
  Inv X pins σ H' {s with heap:=h',gens:=g',drawn:=d',toks:=t'}:=by
 obtain⟨m,⟨o,es,ep,ho,r⟩,_⟩:=id I.loc
 obtain⟨sl,hL⟩:=u.any ho I.free fun z=>(hch _ z).2.1 rfl
 exact I.step (ch:=ch) hch (fun b o hL hb hc e n=>u.keep b o e n (fun z=>(Zf.mp (I.stkSub b z)).elim hL hb) hc) (fun b o _ _ hc e n=>u.any e n hc) (fun b o hc e n=>u.free b o e n hc) (fun b o hc e=>u.there b o e hc) u.tups u.frzs u.tbls (fun m' hm=>by
  obtain⟨o',es',ep',ho',r'⟩:=hm
  rw [ho] at ho';cases ho';exact⟨_,es',ep',hL,r'⟩) hok hg
theorem Inv.turned {t':Nat} {it:Addr} (I:Inv X pins σ H s) (k:∀ b o,b≠it->s.heap.get? b=some o->h'.get? b=some o) (hn:H it=none) (hL:it≠X.env.locals)
  (h1:it∈X.ex\/X.s₀.heap.objs.size<=it) (h2:∀ x c,X.env.cells.lookup x=some c->c≠it) (h3:∀ p∈X.pn++pins,p.1≠it):Inv X pins σ H {s with heap:=h',toks:=t'}:=by
 have nit:∀ b u,H b=some u->b≠it:=fun b u e z=>by rw [z,hn] at e;cases e
 refine I.step (g':=s.gens) (d':=s.drawn) (ch:=[it]) (fun b hb=>?_) (fun b o _ _ hc e _=>k b o (fun z=>hc (by simp [z])) e) (fun b o _ _ hc e _=>⟨o.slots,k b o (fun z=>hc (by simp [z])) e⟩) (fun _ _ _ _ n=>n)
  (fun b o hc e=>⟨o,k b o (fun z=>hc (by simp [z])) e⟩) (fun _ _ e=>e) (fun _ _ _ e=>e) (fun b ps e=>⟨#[],by rw [e];simp⟩) (fun m hm=>?_) (fun b u e=>?_) I.bare
 ·have e:b=it:=by simpa using hb
  subst e;exact⟨h1,hL,h2,h3⟩
 ·obtain⟨o,es,ep,ho,r⟩:=hm
  exact⟨o,es,ep,k _ o (Wh hL) ho,r⟩
 ·refine (I.hok b u e).stay (fun c v hc q=>k c v ?_ q) (fun _ q=>q) fun _ _ q=>q
  rcases hc with z | z
  ·rw [z];exact nit b u e
  ·exact nit c _ z
theorem Inv.tok (I:Inv X pins σ H s) (t:Nat):Inv X pins σ H {s with toks:=t}:=I.un (h':=s.heap) (t':=t) Un.refl I.hok
theorem Inv.kept {t':Nat} (I:Inv X pins σ H s) (k:∀ b u,s.heap.get? b=some u->h'.get? b=some u):Inv X pins σ H {s with heap:=h',toks:=t'}:=I.un (Un.kept k) (I.hok.kept k)
theorem Inv.laid {a:Addr} {o:HO} {t':Nat} (I:Inv X pins σ H s) (k:∀ b u,s.heap.get? b=some u->h'.get? b=some u) (hp:s.heap.objs.size<=a) (new:ObjOk X.prog X.w (upd H a o) h' a o) :
  Inv X pins σ (upd H a o) {s with heap:=h',toks:=t'}:=I.un (Un.laid k hp (I.hok.fresh hp)) (I.hok.laid k hp new)
theorem Inv.write {x e:Addr} {o:HO} {t':Nat} (I:Inv X pins σ H s) (mu:Mut (H x)) (he:e=x\/H e=some (.own x)) (k:∀ b u,b≠e->s.heap.get? b=some u->h'.get? b=some u) (heo:∃ u,h'.get? e=some u)
  (new:ObjOk X.prog X.w (upd H x o) h' x o):Inv X pins σ (upd H x o) {s with heap:=h',toks:=t'}:=I.un (Un.write mu he k heo) (I.hok.write mu he k heo new)
theorem Inv.pins_of {pins':List (Addr×Obj)} (I:Inv X pins σ H s) (h:∀ p∈pins',s.heap.get? p.1=some p.2/\H p.1=none/\p.1≠X.env.locals/\p.1∉X.fs/\∀ v,p.2.data ≠ .cell v):Inv X pins' σ H s:=
 ⟨I.ok,I.os,I.bare,I.base,I.loc,I.cell,I.free,I.freeC,fun p hp=>(Ys.mp hp).elim (fun z=>I.pin p (W3 _ z)) (h p),I.hok,I.len⟩
theorem zmr {N:List Str} (hN:N.Nodup) {i j:Nat} {x:Str} (a:N[i]? = some x) (b:N[j]? = some x):i=j:=by
 obtain⟨h1,e1⟩:=Zm.mp a
 obtain⟨h2,e2⟩:=Zm.mp b
 exact (Kb hN).mp (e1.trans e2.symm)
theorem zis {M:Model} {A:Around} {E:Value->Shared->Prop} {i:Nat} {x:Str} {v:V} {u:Value} {Q:Unit->Shared->Prop} (I:Inv X pins σ H s) (hN:X.N.Nodup) (hi:X.N[i]? = some x) (hx:Loc X.env.scope x) (r:RelV v u)
  (h:∀ s',Inv X pins (σ.set i (some v)) H s'->(∃ a,Heap.SameBut a s.heap s'.heap/\(a=X.env.locals\/X.env.cells.lookup x=some a))->Q () s') (hf:X.fn x=true\/X.env.scope.names.lookup x=some .local:=by first | exact .inl rfl | exact .inr rfl | assumption):wpAny M A (storeName X.env x u) Q E s:=by
 obtain⟨m,hn,hl⟩:=id I.loc
 have hcls:(X.env.scope.kind == .class || (X.env.scope.kind == .module && X.env.locals != X.env.globals))=false:=by rw [I.ok.kind];rfl
 have hiσ:i<σ.length:=by rw [I.len];exact (Zm.mp hi).1
 have cne:=I.cne;have tracked:∀ {a:Addr} {h':Heap},(∃ o,s.heap.get? a=some o/\H a=none)->Heap.SameBut a s.heap h'->HOk X.prog X.w H h':=fun {a h'} ha hs b ob e=>by
  obtain⟨_,_,hfree⟩:=ha
  refine (I.hok b ob e).stay (fun c w' hc q=>(hs.2 c ?_).trans q) (fun _ q=>q) fun _ _ q=>q
  rintro rfl
  rcases hc with rfl | hc
  ·rw [hfree] at e;cases e
  ·rw [hfree] at hc;cases hc
 rcases hx with hk | hk
 ·refine wpAny_storeName_local hk hn (fun h' hn' hs=>?_) hcls;obtain⟨oL,_,_,hoL,_⟩:=id hn
  refine h _ ⟨I.ok,I.os,I.bare,⟨fun b o e n hb hx=>?_,fun b o e n hb hx=>?_,I.base.free,fun b o e hx=>?_,I.base.tups,I.base.frzs,I.base.tbls⟩,⟨_,hn',fun j y v' e1 e2 e3=>?_⟩,fun y c e=>?_,I.free,I.freeC,fun p hp=>?_,tracked ⟨oL,hoL,I.free⟩ hs,by simpa using I.len⟩ ⟨_,hs,.inl rfl⟩
  ·exact (hs.2 b (Z8 (Zd (Zs e) I.ok.above))).trans (I.base.keep b o e n hb hx)
  ·obtain⟨sl,e1⟩:=I.base.slot b o e n hb hx
   exact⟨sl,(hs.2 b (Z8 (Zd (Zs e) I.ok.above))).trans e1⟩
  ·obtain⟨o',e1⟩:=I.base.there b o e hx
   exact⟨o',(hs.2 b (Z8 (Zd (Zs e) I.ok.above))).trans e1⟩
  ·by_cases hj:j=i
   ·subst hj;rw [hi] at e1;cases e1;rw [Wd hiσ] at e2;cases e2;exact⟨u,r,.inl ⟨hk,by simp⟩⟩
   ·rw [Y9 (Wh hj)] at e2;obtain⟨u',r',q⟩:=hl j y v' e1 e2 e3
    refine⟨u',r',?_⟩
    rcases q with⟨k,e⟩ | ⟨k,c,e,z⟩
    ·refine .inl ⟨k,?_⟩;have:y≠x:=fun e=>hj (zmr hN e1 (e ▸ hi))
     simp [this,e]
    ·exact .inr ⟨k,c,e,z.sameBut hs (cne y c e)⟩
  ·obtain⟨w',z⟩:=I.cell y c e
   exact⟨w',z.sameBut hs (cne y c e)⟩
  ·obtain⟨e,n,ne,nf,d⟩:=I.pin p hp
   exact⟨(hs.2 p.1 ne).trans e,n,ne,nf,d⟩
 ·have hfn:X.fn x=true:=by
   rcases hf with z | z
   ·exact z
   ·rw [z] at hk;cases hk
  obtain⟨c,hc⟩:=I.ok.has x (.inl hk)
  obtain⟨w',z⟩:=I.cell x c hc
  refine wpAny_storeName_cell I.ok.kind hk hc z (fun h' hc' hs=>?_);obtain⟨oc,hoc,hocd⟩:=id z
  refine h {s with heap:=h'} ⟨I.ok,I.os,I.bare,⟨fun b o e n hb hx=>?_,fun b o e n hb hx=>?_,I.base.free,fun b o e hx=>?_,I.base.tups,I.base.frzs,I.base.tbls⟩,⟨m,hn.sameBut hs (Wh (cne x c hc)),fun j y v' e1 e2 e3=>?_⟩,fun y c' e=>?_,I.free,I.freeC,fun p hp=>?_,tracked ⟨oc,hoc,I.freeC x c hc⟩ hs,by simpa using I.len⟩ ⟨c,hs,.inr hc⟩
  ·exact (hs.2 b (Z8 (Zd (Zs e) (I.ok.cab x c hfn hc)))).trans (I.base.keep b o e n hb hx)
  ·obtain⟨sl,e1⟩:=I.base.slot b o e n hb hx
   exact⟨sl,(hs.2 b (Z8 (Zd (Zs e) (I.ok.cab x c hfn hc)))).trans e1⟩
  ·obtain⟨o',e1⟩:=I.base.there b o e hx
   exact⟨o',(hs.2 b (Z8 (Zd (Zs e) (I.ok.cab x c hfn hc)))).trans e1⟩
  ·by_cases hj:j=i
   ·subst hj;rw [hi] at e1;cases e1;rw [Wd hiσ] at e2;cases e2;exact⟨u,r,.inr ⟨.inl hk,c,hc,hc'⟩⟩
   ·rw [Y9 (Wh hj)] at e2;obtain⟨u',r',q⟩:=hl j y v' e1 e2 e3
    refine⟨u',r',?_⟩
    rcases q with q | ⟨k,c',e,z'⟩
    ·exact .inl q
    ·refine .inr ⟨k,c',e,z'.sameBut hs ?_⟩;rintro rfl
     exact hj (zmr hN e1 (I.ok.inj _ _ _ e hc ▸ hi))
  ·by_cases hcc:c'=c
   ·subst hcc;exact⟨_,hc'⟩
   ·obtain⟨w2,z2⟩:=I.cell y c' e
    exact⟨w2,z2.sameBut hs hcc⟩
  ·obtain⟨e,n,ne,nf,d⟩:=I.pin p hp
   refine⟨(hs.2 p.1 ?_).trans e,n,ne,nf,d⟩
   intro q;rw [q,hoc] at e;have q':oc=p.2:=Z3 e;exact d w' (by rw [<- q'];exact hocd)
theorem zdw {M:Model} {A:Around} {E:Value->Shared->Prop} {i:Nat} {x:Str} {v:V} {u:Value} {Q:Unit->Shared->Prop} (I:Inv X pins σ H s) (hN:X.N.Nodup) (hi:X.N[i]? = some x) (hx:Loc X.env.scope x) (r:RelV v u)
  (h:∀ s',Inv X pins (σ.set i (some v)) H s'->Q () s') (hf:X.fn x=true\/X.env.scope.names.lookup x=some .local:=by first | exact .inl rfl | exact .inr rfl | assumption):wpAny M A (storeName X.env x u) Q E s:=
 zis I hN hi hx r (fun s' I' _=>h s' I') hf
theorem Inv.call' {s':Shared} {ch:List Addr} (I:Inv X pins σ H s) (ho:s'.os=s.os) (u:Un (frs X.stack) ch H H' s.heap s'.heap) (hok:HOk X.prog X.w H' s'.heap) (hg:AllBare s'.gens)
  (hch:∀ b∈ch,(b∈X.ex\/X.s₀.heap.objs.size<=b)/\b≠X.env.locals/\(∀ x c,X.env.cells.lookup x=some c->c≠b)/\∀ p∈X.pn++pins,p.1≠b):Inv X pins σ H' s':=by
 obtain⟨h',g',d',t',o'⟩:=s'
 have e:o'=s.os:=ho;subst e;exact I.call (g':=g') (t':=t') (d':=d') u hok hg hch
end
abbrev XK:=Value->Option Addr->Hp->Prop
abbrev St:=List (Option V)
abbrev VK:=V->Hp->Prop
abbrev TE:=St->Hp->VK->Prop
abbrev TT:=St->Hp->(Bool->Hp->Prop)->Prop
abbrev TA:=St->Hp->(List V->Hp->Prop)->Prop
structure Ends where
 nx:St->Hp->Prop
 rt:VK
 bk:St->Hp->Prop:=fun _ _=>False
 ct:St->Hp->Prop:=fun _ _=>False
abbrev TS:=Ends->St->Hp->Prop
def EP (X:Cx) (pins:List (Addr×Obj)) (σ:St) (Q:VK) (u:Value) (s':Shared):Prop:=∃ v H',Inv X pins σ H' s'/\RelV v u/\Q v H'
def TP (X:Cx) (pins:List (Addr×Obj)) (σ:St) (Q:Bool->Hp->Prop) (b:Bool) (s':Shared):Prop:=∃ H',Inv X pins σ H' s'/\Q b H'
def AP (X:Cx) (pins:List (Addr×Obj)) (σ:St) (Q:List V->Hp->Prop) (us:List Value) (s':Shared):Prop:=∃ vs H',Inv X pins σ H' s'/\Vals vs us/\Q vs H'
def SP (X:Cx) (pins:List (Addr×Obj)) (D:Ends) (f:Flow) (s':Shared):Prop:=
 match f with
 | .next=>∃ σ' H',Inv X pins σ' H' s'/\D.nx σ' H'
 | .brk=>∃ σ' H',Inv X pins σ' H' s'/\D.bk σ' H'
 | .cont=>∃ σ' H',Inv X pins σ' H' s'/\D.ct σ' H'
 | .ret u=>∃ v σ' H',Inv X pins σ' H' s'/\RelV v u/\D.rt v H'
def PE (X:Cx) (e:Expr) (t:TE):Prop:=
 ∀ (pins:List (Addr×Obj)) (s:Shared) (σ:St) (H:Hp) (Q:VK),Inv X pins σ H s->t σ H Q->wpAny (model X.prog X.w) X.A (eval e X.env) (EP X pins σ Q) X.xe s
def PT (X:Cx) (e:Expr) (t:TT):Prop:=
 ∀ (pins:List (Addr×Obj)) (s:Shared) (σ:St) (H:Hp) (Q:Bool->Hp->Prop),Inv X pins σ H s->t σ H Q->wpAny (model X.prog X.w) X.A (isTrue e X.env (eval e X.env)) (TP X pins σ Q) X.xe s
def PW (X:Cx) (e:Expr) (t:TT):Prop:=
 ∀ (whole:Sem Value) (pins:List (Addr×Obj)) (s:Shared) (σ:St) (H:Hp) (Q:Bool->Hp->Prop),Inv X pins σ H s->t σ H Q->wpAny (model X.prog X.w) X.A (isTrue e X.env whole) (TP X pins σ Q) X.xe s
theorem PW.pt {X:Cx} {e:Expr} {t:TT} (h:PW X e t):PT X e t:=h _
def PA (X:Cx) (es:List Expr) (t:TA):Prop:=
 ∀ (pos:Pos) (pins:List (Addr×Obj)) (s:Shared) (σ:St) (H:Hp) (Q:List V->Hp->Prop),Inv X pins σ H s->t σ H Q->wpAny (model X.prog X.w) X.A (spliced (backTo pos (starEach es X.env))) (AP X pins σ Q) X.xe s
def PS (X:Cx) (st:Stmt) (t:TS):Prop:=
 ∀ (pins:List (Addr×Obj)) (s:Shared) (σ:St) (H:Hp) (D:Ends),Inv X pins σ H s->t D σ H->wpAny (model X.prog X.w) X.A (exec st X.env) (SP X pins D) X.xe s
def PSs (X:Cx) (st:List Stmt) (t:TS):Prop:=
 ∀ (pins:List (Addr×Obj)) (s:Shared) (σ:St) (H:Hp) (D:Ends),Inv X pins σ H s->t D σ H->wpAny (model X.prog X.w) X.A (execs st X.env) (SP X pins D) X.xe s
theorem thn {α:Type} {t:Sem α} {Q Q':α->Shared->Prop} {M:Model} {A:Around} {E:Value->Shared->Prop} {s:Shared} (h:wpAny M A t Q E s) (hQ:∀ a s,Q a s->Q' a s):wpAny M A t Q' E s:=Ud h hQ fun _ _ x=>x
end L2
namespace L2
open PySem PySem.Spec PyProof.Rows
section
variable {X:Cx}
def tVar (i:Nat):TE:=fun σ H Q=>∃ v,σ[i]? = some (some v)/\Q v H
def tC (v:V):TE:=fun _ H Q=>Q v H
theorem zdg {i:Nat} {x:Str} {pos:Pos} (hN:X.N[i]? = some x) (hv:Vis X.env.scope x) (hd:(x == ("__debug__" : Str))=false:=by decide) (hcd:(x == ("__classdict__" : Str))=false:=by decide):PE X (.Name x pos) (tVar i):=by
 intro pins s σ H Q I h;obtain⟨v,e,h⟩:=h
 obtain⟨m,hn,hl⟩:=I.loc
 obtain⟨u,r,l⟩:=hl i x v hN e hv
 have fin:EP X pins σ Q u s:=⟨v,H,I,r,h⟩;rcases l with⟨hk,hm⟩ | ⟨hk,c,hc,hcell⟩
 ·exact wpAny_Name (wpAny_loadName_local I.ok.kind hk hn hm fin) hd
 ·rcases hk with hk | hk
  ·exact wpAny_Name (wpAny_loadName_cell I.ok.kind hk hc hcell fin) hd
  ·exact wpAny_Name (wpAny_loadName_free I.ok.kind hk hc hcell fin hcd) hd
theorem pe_int {i j pos}:PE X (.Constant (.int i) j pos) (tC (.int i)):=fun _ _ _ H _ I h=>wpAny_Constant_int ⟨.int i,H,I.tok _,⟨_,rfl⟩,h⟩
theorem pe_bl {b j pos}:PE X (.Constant (.bool b) j pos) (tC (.bl b)):=fun _ _ _ H _ I h=>Constant_bool ⟨.bl b,H,I,rfl,h⟩
theorem pe_non {j pos}:PE X (.Constant .none j pos) (tC .non):=fun _ _ _ H _ I h=>Constant_none ⟨.non,H,I,rfl,h⟩
def Gl (X:Cx) (x:Str):Prop:=X.env.kindOf x=some .globalImplicit
theorem ycb {E:Value->Shared->Prop} {pins:List (Addr×Obj)} {s:Shared} {σ:St} {H:Hp} {x:Str} {u:Value} {pos:Pos} {Q:Value->Shared->Prop} (I:Inv X pins σ H s) (hg:Gl X x) (hm:X.mg x=some u) (h:Q u s)
  (hd:(x == ("__debug__" : Str))=false:=by decide):wpAny (model X.prog X.w) X.A (eval (.Name x pos) X.env) Q E s:=
 Ub I.ok.kind hg (Calls.loadGlobal_global (by rw [I.ok.glob];exact I.mod.glob.keeps I.bk) hm h) hd
theorem zcl {E:Value->Shared->Prop} {pins:List (Addr×Obj)} {s:Shared} {σ:St} {H:Hp} {x:Str} {u:Value} {pos:Pos} {Q:Value->Shared->Prop} (I:Inv X pins σ H s) (hg:Gl X x) (hm:X.mg x=none) (hv:bootBuiltins x=some u) (h:Q u s)
  (hn:x ≠ "__name__" := by decide) (hd:(x == ("__debug__" : Str))=false:=by decide):wpAny (model X.prog X.w) X.A (eval (.Name x pos) X.env) Q E s:=by
 obtain⟨mb,h1,h2⟩:=I.mod.blt
 exact Ub I.ok.kind hg (Calls.loadGlobal_builtin (by rw [I.ok.glob];exact I.mod.glob.keeps I.bk) hm (by rw [I.ok.blt];exact h1.keeps I.bk) ((h2 x hn).trans hv) h) hd
theorem ybe {x:Str} {v:V} {u:Value} {pos:Pos} (hg:Gl X x) (hm:X.mg x=none) (hv:bootBuiltins x=some u) (r:RelV v u) (hn:x ≠ "__name__" := by decide) (hd:(x == ("__debug__" : Str))=false:=by decide):PE X (.Name x pos) (tC v):=
 fun _ _ _ H _ I h=>zcl I hg hm hv ⟨v,H,I,r,h⟩ hn hd
variable {a b:Expr} {ta tb:TE} {pos:Pos}
def tB (t:TE):TT:=fun σ H Q=>t σ H fun x H1=>∃ c,x=.bl c/\Q c H1
theorem pt_val {e:Expr} {t:TE} (h:PE X e t) (he:∀ whole,isTrue e X.env whole=(do let v <- whole;standAt e.pos;holding [v] (truthy v)):=by intro _;rfl):PT X e (tB t):=by
 intro pins s σ H Q I hw;refine isTrue_plain (thn (h pins s σ H _ I hw) fun v s1 ⟨x,H1,I1,r1,q1⟩=>?_) (he _);obtain⟨d,rfl,q⟩:=q1
 cases r1;exact Qo ⟨H1,I1,q⟩
variable {tA tB':TT} {rest:List Expr}
def tAnd (t u:TT):TT:=fun σ H Q=>t σ H fun c H1=>if c=true then u σ H1 Q else Q false H1
def tOr (t u:TT):TT:=fun σ H Q=>t σ H fun c H1=>if c=true then Q true H1 else u σ H1 Q
def tNot (t:TT):TT:=fun σ H Q=>t σ H fun c H1=>Q (!c) H1
theorem yau (ha:PT X a tA):PW X (.BoolOp .And [a] pos) tA:=by
 intro wh pins s σ H Q I h;refine isTrue_and (thn (ha pins s σ H Q I h) fun c s1 e=>?_);cases c with
 | true=>exact isTrue_and_nil e
 | false=>exact e
theorem pw_or1 (ha:PT X a tA):PW X (.BoolOp .Or [a] pos) tA:=by
 intro wh pins s σ H Q I h;refine isTrue_or (thn (ha pins s σ H Q I h) fun c s1 e=>?_);cases c with
 | false=>exact isTrue_or_nil e
 | true=>exact e
theorem zxs (ha:PT X a tA) (hb:PW X (.BoolOp .And (b::rest) pos) tB'):PW X (.BoolOp .And (a::b::rest) pos) (tAnd tA tB'):=by
 intro wh pins s σ H Q I h;refine isTrue_and (thn (ha pins s σ H _ I h) fun c s1 ⟨H1,I1,q1⟩=>?_);cases c with
 | true=>exact hb wh pins s1 σ H1 Q I1 q1
 | false=>exact⟨H1,I1,q1⟩
theorem pw_or (ha:PT X a tA) (hb:PW X (.BoolOp .Or (b::rest) pos) tB'):PW X (.BoolOp .Or (a::b::rest) pos) (tOr tA tB'):=by
 intro wh pins s σ H Q I h;refine isTrue_or (thn (ha pins s σ H _ I h) fun c s1 ⟨H1,I1,q1⟩=>?_);cases c with
 | true=>exact⟨H1,I1,q1⟩
 | false=>exact hb wh pins s1 σ H1 Q I1 q1
theorem pt_not (ha:PT X a tA):PT X (.UnaryOp .Not a pos) (tNot tA):=by
 intro pins s σ H Q I h;exact isTrue_not (ha pins s σ H (fun c H1=>Q (!c) H1) I h)
def tAndV (ta tb:TE):TE:=fun σ H Q=>ta σ H fun x H1=>∃ c,x=.bl c/\if c=true then tb σ H1 Q else Q (.bl false) H1
def tOrV (ta tb:TE):TE:=fun σ H Q=>ta σ H fun x H1=>∃ c,x=.bl c/\if c=true then Q (.bl true) H1 else tb σ H1 Q
def tNotV (ta:TE):TE:=fun σ H Q=>ta σ H fun x H1=>∃ c,x=.bl c/\Q (.bl (!c)) H1
theorem pe_one {op} {t:TE} (h:PE X a t):PE X (.BoolOp op [a] pos) t:=fun pins s σ H Q I hw=>BoolOp_one (h pins s σ H Q I hw)
theorem zxz (ha:PE X a ta) (hb:PE X (.BoolOp .And (b::rest) pos) tb):PE X (.BoolOp .And (a::b::rest) pos) (tAndV ta tb):=by
 intro pins s σ H Q I h;refine BoolOp_and (thn (ha pins s σ H _ I h) fun v s1 ⟨x,H1,I1,r1,q1⟩=>?_);obtain⟨c,rfl,q1⟩:=q1
 cases r1;refine Qo ?_;cases c with
 | true=>exact hb pins s1 σ H1 Q I1 q1
 | false=>exact⟨.bl false,H1,I1,rfl,q1⟩
theorem pe_or (ha:PE X a ta) (hb:PE X (.BoolOp .Or (b::rest) pos) tb):PE X (.BoolOp .Or (a::b::rest) pos) (tOrV ta tb):=by
 intro pins s σ H Q I h;refine BoolOp_or (thn (ha pins s σ H _ I h) fun v s1 ⟨x,H1,I1,r1,q1⟩=>?_);obtain⟨c,rfl,q1⟩:=q1
 cases r1;refine Qo ?_;cases c with
 | false=>exact hb pins s1 σ H1 Q I1 q1
 | true=>exact⟨.bl true,H1,I1,rfl,q1⟩
theorem pe_not (ha:PE X a ta):PE X (.UnaryOp .Not a pos) (tNotV ta):=by
 intro pins s σ H Q I h;refine UnaryOp_ (thn (ha pins s σ H _ I h) fun v s1 ⟨x,H1,I1,r1,q1⟩=>?_);obtain⟨c,rfl,q1⟩:=q1
 cases r1;exact not_of (Qo ⟨.bl (!c),H1,I1,rfl,q1⟩)
end
end L2
namespace L2
open PySem PySem.Spec PyProof.Rows
def SqL (K:PySem.W.Frag) (H:Hp) (a:Addr) (xs:List V):Prop:=
 Rd H a (.lst xs) \/
  ∃ (o:Obj) (its:Array Value) (n:Nat),K.lookup a=some o/\o.cls=.type "list" /\ o.dict=none/\o.data=.seq its n/\its.size<=sizeLine/\Vals xs its.toList
def SqT (K:PySem.W.Frag) (H:Hp) (a:Addr) (xs:List V):Prop:=
 Rd H a (.tup xs) \/
  ∃ (o:Obj) (its:Array Value) (n:Nat),K.lookup a=some o/\o.cls=.type "tuple" /\ o.data=.seq its n/\its.size<=sizeLine/\Vals xs its.toList
def absV:Value->Option V
 | .none=>some .non
 | .bool b=>some (.bl b)
 | .int i _=>some (.int i)
 | .str x _=>some (.str x)
 | .bytes b _=>some (.byt b)
 | .float b _=>some (.flt b)
 | .ref a=>some (.ref a)
 | .type n=>some (.ty n)
 | _=>none
theorem RelV.abs {x:V} {u:Value} (r:RelV x u):absV u=some x:=by
 cases x with
 | non=>cases r;rfl
 | bl _=>cases r;rfl
 | int _=>obtain⟨t,rfl⟩:=r;rfl
 | str _=>obtain⟨t,rfl⟩:=r;rfl
 | byt _=>obtain⟨t,rfl⟩:=r;rfl
 | flt _=>obtain⟨t,rfl⟩:=r;rfl
 | ref _=>cases r;rfl
 | ty _=>cases r;rfl
theorem RelV.inj {x y:V} {u:Value} (r:RelV x u) (q:RelV y u):x=y:=Z3 (r.abs.symm.trans q.abs)
theorem Vals.inj:∀ {xs ys:List V} {us:List Value},Vals xs us->Vals ys us->xs=ys:=fun {xs ys us} h=>by
 induction h generalizing ys with
 | nil=>intro k;cases k;rfl
 | cons r t ih=>
  intro k;cases k with
  | cons r2 t2=>rw [r.inj r2,ih t2]
section
variable {X:Cx} {pins:List (Addr×Obj)} {σ:St} {H:Hp} {s:Shared} {a:Addr} {xs ys:List V}
theorem SqL.of {K:PySem.W.Frag} (h:H a=some (.lst xs)):SqL K H a xs:=.inl (.inl h)
theorem SqT.of {K:PySem.W.Frag} (h:H a=some (.tup xs)):SqT K H a xs:=.inl (.inl h)
theorem Inv.list (I:Inv X pins σ H s) (h:SqL X.K H a xs):∃ its:List Value,Vals xs its/\PlainL s.heap a its.toArray/\xs.length<=sizeLine:=by
 rcases h with h | ⟨o,its,n,hk,hc,hd,hs,hz,r⟩
 ·obtain⟨z,its,n,r,e⟩:=h.ok I.hok
  exact⟨its,r,⟨_,n,e,rfl,rfl,rfl⟩,z⟩
 ·refine⟨its.toList,r,⟨o,n,I.kIn a o hk,hc,hd,by simpa using hs⟩,?_⟩
  have e:=r.length;simp only [Jf] at e;omega
theorem Inv.tuple (I:Inv X pins σ H s) (h:SqT X.K H a xs):∃ its:List Value,Vals xs its/\IsTup s.heap a its.toArray/\xs.length<=sizeLine:=by
 rcases h with h | ⟨o,its,n,hk,hc,hs,hz,r⟩
 ·obtain⟨z,its,r,p⟩:=h.ok I.hok
  exact⟨its,r,p,z⟩
 ·refine⟨its.toList,r,⟨o,I.kIn a o hk,hc,n,by simpa using hs⟩,?_⟩
  have e:=r.length;simp only [Jf] at e;omega
theorem Inv.list_inj (I:Inv X pins σ H s) (h:SqL X.K H a xs) (h':SqL X.K H a ys):xs=ys:=by
 obtain⟨its,r,⟨o,n,e,_,_,d⟩,_⟩:=I.list h
 obtain⟨its',r',⟨o',n',e',_,_,d'⟩,_⟩:=I.list h'
 rw [e] at e';cases e';rw [d] at d';injection d' with d1 _
 have:its=its':=by simpa using congrArg Array.toList d1
 subst this;exact r.inj r'
theorem Inv.tuple_inj (I:Inv X pins σ H s) (h:SqT X.K H a xs) (h':SqT X.K H a ys):xs=ys:=by
 obtain⟨its,r,⟨o,e,_,n,d⟩,_⟩:=I.tuple h
 obtain⟨its',r',⟨o',e',_,n',d'⟩,_⟩:=I.tuple h'
 rw [e] at e';cases e';rw [d] at d';injection d' with d1 _
 have:its=its':=by simpa using congrArg Array.toList d1
 subst this;exact r.inj r'
end
abbrev Cx.wish (X:Cx) (E:Value->Shared->Prop):Cx:={X with xe:=E}
abbrev Cx.nox (X:Cx):Cx:=X.wish fun _ _=>False
theorem Cx.Ok.wish {X:Cx} (ok:X.Ok) (E:Value->Shared->Prop):(X.wish E).Ok:=
 ⟨ok.mod,ok.kind,ok.glob,ok.blt,ok.above,ok.inj,ok.has,ok.cab,ok.hd,ok.frames,ok.stk,ok.exf,ok.bs,ok.bsz,ok.noex,ok.exfs,ok.funs,ok.frf⟩
theorem Cx.Ok.unwish {X:Cx} {E:Value->Shared->Prop} (ok:(X.wish E).Ok):X.Ok:=
 ⟨ok.mod,ok.kind,ok.glob,ok.blt,ok.above,ok.inj,ok.has,ok.cab,ok.hd,ok.frames,ok.stk,ok.exf,ok.bs,ok.bsz,ok.noex,ok.exfs,ok.funs,ok.frf⟩
section
variable {X:Cx} {pins:List (Addr×Obj)} {σ:St} {H:Hp} {s:Shared} {E:Value->Shared->Prop}
theorem Inv.wish (I:Inv X pins σ H s) (E:Value->Shared->Prop):Inv (X.wish E) pins σ H s:=⟨I.ok.wish E,I.os,I.bare,I.base,I.loc,I.cell,I.free,I.freeC,I.pin,I.hok,I.len⟩
theorem Inv.unwish (I:Inv (X.wish E) pins σ H s):Inv X pins σ H s:=⟨I.ok.unwish,I.os,I.bare,I.base,I.loc,I.cell,I.free,I.freeC,I.pin,I.hok,I.len⟩
theorem SP.unwish {D:Ends} {f:Flow} {s':Shared} (h:SP (X.wish E) pins D f s'):SP X pins D f s':=by
 cases f with
 | next=>obtain⟨σ',H',I,q⟩:=h;exact⟨σ',H',I.unwish,q⟩
 | brk=>obtain⟨σ',H',I,q⟩:=h;exact⟨σ',H',I.unwish,q⟩
 | cont=>obtain⟨σ',H',I,q⟩:=h;exact⟨σ',H',I.unwish,q⟩
 | ret u=>obtain⟨v,σ',H',I,r,q⟩:=h;exact⟨v,σ',H',I.unwish,r,q⟩
theorem PSs.nox {st:List Stmt} {t:TS} (h:PSs X.nox st t):PSs X st t:=fun pins s σ H D I hw=>
 Ud (h pins s σ H D (I.wish _) hw) (fun _ _ q=>q.unwish) fun _ _ z=>False.elim z
end
section
variable {X:Cx} {st:Stmt} {rest:List Stmt} {t u:TS} {e:Expr} {te:TE} {pos:Pos}
def tNext:TS:=fun D σ H=>D.nx σ H
def tSeq (t u:TS):TS:=fun D σ H=>t {D with nx:=u D} σ H
theorem yaw:PSs X [] tNext:=fun _ _ σ H _ I h=>Ut ⟨σ,H,I,h⟩
theorem zmg (h1:PS X st t) (h2:PSs X rest u):PSs X (st::rest) (tSeq t u):=by
 intro pins s σ H D I h;refine wpAny_execs_cons (thn (h1 pins s σ H {D with nx:=u D} I h) fun f s1 q=>?_);cases f with
 | next=>
  obtain⟨σ',H',I',q⟩:=q
  exact h2 pins s1 σ' H' D I' q
 | ret v=>exact q
 | brk=>exact q
 | cont=>exact q
theorem Inv.quiet {pins:List (Addr×Obj)} {σ:St} {H:Hp} {s:Shared} (I:Inv X pins σ H s):interactive X.env=false:=by simp [interactive,I.ok.kind]
def tDrop (te:TE):TS:=fun D σ H=>te σ H fun _ H1=>D.nx σ H1
theorem zkq (he:PE X e te) (hs:swapsWith e none pos.line X.env=pure false:=by rfl):PS X (.Expr e pos) (tDrop te):=by
 intro pins s σ H D I h;exact wpAny_Expr_any (thn (he pins s σ H _ I h) fun v s1 ⟨x,H1,I1,r1,q1⟩=>⟨σ,H1,I1,q1⟩) I.quiet hs
def tRet (te:TE):TS:=fun D σ H=>te σ H D.rt
theorem zxv (he:PE X e te):PS X (.Return (some e) pos) (tRet te):=by
 intro pins s σ H D I h;exact wpAny_Return_some (thn (he pins s σ H _ I h) fun v s1 ⟨x,H1,I1,r1,q1⟩=>⟨x,σ,H1,I1,r1,q1⟩)
def tIfS (c:TT) (t u:TS):TS:=fun D σ H=>c σ H fun b H1=>if b=true then t D σ H1 else u D σ H1
theorem ps_if {c:Expr} {a b:List Stmt} {tc:TT} (hc:PT X c tc) (ha:PSs X a t) (hb:PSs X b u):PS X (.If c a b pos) (tIfS tc t u):=by
 intro pins s σ H D I h;refine wpAny_If (thn (hc pins s σ H _ I h) fun d s1 ⟨H1,I1,q1⟩=>?_);cases d with
 | true=>exact ha pins s1 σ H1 D I1 q1
 | false=>exact hb pins s1 σ H1 D I1 q1
def tNever:TS:=fun _ _ _=>False
theorem zez {sts:List Stmt}:PSs X sts tNever:=fun _ _ _ _ _ _ h=>h.elim
end
abbrev TG:=V->St->Hp->(St->Hp->Prop)->Prop
abbrev TGs:=List V->St->Hp->(St->Hp->Prop)->Prop
def PG (X:Cx) (target:Expr) (t:TG):Prop:=
 ∀ (pins:List (Addr×Obj)) (s:Shared) (σ:St) (H:Hp) (v:V) (u:Value) (Q:St->Hp->Prop),Inv X pins σ H s->RelV v u->t v σ H Q ->
  wpAny (model X.prog X.w) X.A (assign target X.env u) (fun _ s'=>∃ σ' H',Inv X pins σ' H' s'/\Q σ' H') X.xe s
def PGs (X:Cx) (ts:List Expr) (t:TGs):Prop:=
 ∀ (pins:List (Addr×Obj)) (s:Shared) (σ:St) (H:Hp) (vs:List V) (us:List Value) (Q:St->Hp->Prop),Inv X pins σ H s->Vals vs us->t vs σ H Q ->
  wpAny (model X.prog X.w) X.A (assignInOrder ((assignEach ts X.env).map (·.2)) us) (fun _ s'=>∃ σ' H',Inv X pins σ' H' s'/\Q σ' H') X.xe s
abbrev TSet:=V->V->V->Hp->(Hp->Prop)->Prop
def PSet (X:Cx) (t:TSet):Prop:=
 ∀ (pins:List (Addr×Obj)) (s:Shared) (σ:St) (H:Hp) (o i v:V) (ov iv u:Value) (Q:Hp->Prop),Inv X pins σ H s->RelV o ov->RelV i iv->RelV v u->t o i v H Q ->
  wpAny (model X.prog X.w) X.A (setItem ov iv u) (fun _ s'=>∃ H',Inv X pins σ H' s'/\Q H') X.xe s
section
variable {X:Cx} {pos:Pos}
def gName (i:Nat):TG:=fun v σ H Q=>Q (σ.set i (some v)) H
theorem zqm {i:Nat} {x:Str} (hN:X.N.Nodup) (hi:X.N[i]? = some x) (hx:Loc X.env.scope x) (hf:X.fn x=true\/X.env.scope.names.lookup x=some .local:=by first | exact .inl rfl | exact .inr rfl | assumption):PG X (.Name x pos) (gName i):=by
 intro pins s σ H v u Q I r h;exact wpAny_assign_Name (zdw I hN hi hx r (fun s' I'=>⟨_,H,I',h⟩) hf)
def gNil:TGs:=fun vs σ H Q=>vs=[]/\Q σ H
def gCons (t:TG) (u:TGs):TGs:=fun vs σ H Q=>∃ v r,vs=v::r/\t v σ H fun σ' H'=>u r σ' H' Q
theorem zql:PGs X [] gNil:=by
 intro pins s σ H vs us Q I r h;obtain⟨e,h⟩:=h
 subst e;cases r;exact assignInOrder_nil ⟨σ,H,I,h⟩
theorem zmi {e:Expr} {es:List Expr} {t:TG} {u:TGs} (h1:PG X e t) (h2:PGs X es u)
  (hs:(assignEach (e::es) X.env).map (·.2)=assign e X.env::(assignEach es X.env).map (·.2):=by rfl):PGs X (e::es) (gCons t u):=by
 intro pins s σ H vs us Q I r h;obtain⟨v,vr,e1,h⟩:=h
 subst e1;cases r with
 | cons r rr=>
  rw [hs];refine Jy (thn (h1 pins s σ H _ _ _ I r h) fun _ s1 ⟨σ1,H1,I1,q1⟩=>?_);exact h2 pins s1 σ1 H1 _ _ Q I1 rr q1
def gTup (K:PySem.W.Frag) (n:Nat) (t:TGs):TG:=fun v σ H Q=>∃ a xs,v=.ref a/\SqT K H a xs/\xs.length=n/\t xs σ H Q
theorem zxx {es:List Expr} {k:Nat} {t:TGs} {n:Nat} (hc:X.calm=true) (h:PGs X es t)
  (hn:(assignEach es X.env).length=n:=by rfl) (hst:(assignEach es X.env).findIdx? (·.1)=none:=by rfl):PG X (.Tuple es k pos) (gTup X.K n t):=by
 intro pins s σ H v u Q I r hw;obtain⟨a,xs,e1,hq,hl,hw⟩:=hw
 subst e1;cases r;obtain⟨its,rv,ht,hz⟩:=I.tuple hq
 refine assign_Tuple_tuple (I.ok.hd hc) ht (by simp [hn,<- hl,rv.length]) hst fun h' hx=>?_;have I1:Inv X pins σ H {s with heap:=h'}:=I.kept (t':=s.toks) fun b o e=>hx b o (Z8 (Zs e)) e
 exact h pins _ σ H xs _ Q I1 (by simpa using rv) hw
def gSub (to ti:TE) (t:TSet):TG:=fun v σ H Q=>to σ H fun o H1=>ti σ H1 fun i H2=>t o i v H2 fun H3=>Q σ H3
theorem pg_sub {o i:Expr} {to ti:TE} {t:TSet} (ho:PE X o to) (hi:PE X i ti) (hs:PSet X t)
  (ha:∀ v,assign (.Subscript o i pos) X.env v=(do
   let ov <- holding [v] (eval o X.env)
   let iv <- holding [v,ov] (eval i X.env)
   standAt pos
   holding [v,ov,iv] (setItem ov iv v)
   release [v,ov,iv] []):=by intro _;rfl):PG X (.Subscript o i pos) (gSub to ti t):=by
 intro pins s σ H v u Q I r h;rw [ha];refine Zg (Y5 (thn (ho pins s σ H _ I h) fun ov s1 ⟨x,H1,I1,r1,q1⟩=>?_));refine Zg (Y5 (thn (hi pins s1 σ H1 _ I1 q1) fun iv s2 ⟨y,H2,I2,r2,q2⟩=>?_));refine Zg (K4 (Zg (Y5 (thn (hs pins s2 σ H2 x y v ov iv u _ I2 r1 r2 r q2) fun _ s3 ⟨H3,I3,q3⟩=>?_))));exact wpAny_release ⟨σ,H3,I3,q3⟩
def tAsg (te:TE) (g:TG):TS:=fun D σ H=>te σ H fun x H1=>g x σ H1 D.nx
theorem zxw {tg e:Expr} {te:TE} {g:TG} (he:PE X e te) (hg:PG X tg g) (hs:swapsWithSole [tg] e pos.line X.env=pure false:=by rfl) (hw:swappedStores [tg] e X.env=pure none:=by rfl)
  (h1:(assignEach [tg] X.env).map (·.2)=[assign tg X.env]:=by rfl):PS X (.Assign [tg] e pos) (tAsg te g):=by
 intro pins s σ H D I h;refine wpAny_Assign_stores (thn (he pins s σ H _ I h) fun v s1 ⟨x,H1,I1,r1,q1⟩=>?_) hs hw;rw [h1];exact thn (hg pins s1 σ H1 x v _ I1 r1 q1) fun _ s2 q=>q
theorem ps_set {i:Nat} {x:Str} {e:Expr} {te:TE} {pos':Pos} (hN:X.N.Nodup) (hi:X.N[i]? = some x) (hx:Loc X.env.scope x) (he:PE X e te) (hs:swapsWith e (some (.Name x pos')) pos.line X.env=pure false:=by rfl) (hf:X.fn x=true\/X.env.scope.names.lookup x=some .local:=by first | exact .inl rfl | exact .inr rfl | assumption) :
  PS X (.Assign [.Name x pos'] e pos) (tAsg te (gName i)):=by
 intro pins s σ H D I h;refine wpAny_Assign_Name (thn (he pins s σ H _ I h) fun v s1 ⟨y,H1,I1,r1,q1⟩=>?_) hs;exact zdw I1 hN hi hx r1 (fun s2 I2=>⟨_,H1,I2,q1⟩) hf
def tPar (i j:Nat) (ta:TA):TS:=fun D σ H=>ta σ H fun vs H1=>∃ v w,vs=[v,w]/\D.nx ((σ.set i (some v)).set j (some w)) H1
theorem ps_par {i j:Nat} {x y:Str} {a b:Expr} {ta:TA} {px py pt:Pos} {kt k2 pt2} (hc:X.calm=true) (hN:X.N.Nodup) (hi:X.N[i]? = some x) (hj:X.N[j]? = some y) (hij:i≠j)
  (hx:X.env.scope.names.lookup x=some .local) (hy:X.env.scope.names.lookup y=some .local) (ha:PA X [a,b] ta)
  (hw:swappedStores [.Tuple [.Name x px,.Name y py] kt pt] (.Tuple [a,b] k2 pt2) X.env=pure (some [x,y]))
  (hs:swapsWithSole [.Tuple [.Name x px,.Name y py] kt pt] (.Tuple [a,b] k2 pt2) pos.line X.env=pure false:=by rfl) :
  PS X (.Assign [.Tuple [.Name x px,.Name y py] kt pt] (.Tuple [a,b] k2 pt2) pos) (tPar i j ta):=by
 intro pins s σ H D I h;rw [exec_Assign_arm];refine Zg (K4 ?_);rw [hs];refine Zg (Zy ?_);rw [if_neg (by decide)];refine Zg (Tuple_ (thn (ha _ pins s σ H _ I h) fun us s1 ⟨vs,H1,I1,r1,q1⟩=>?_));obtain⟨v,w,e1,q1⟩:=q1
 subst e1;obtain⟨u1,u2,rfl,rv,rw'⟩:∃ u1 u2,us=[u1,u2]/\RelV v u1/\RelV w u2:=by
  cases r1 with
  | cons p q=>
   cases q with
   | cons p' q'=>
    cases q';exact⟨_,_,rfl,p,p'⟩
 refine wpAny_newObj_type ?_ (by show 2<=sizeLine;decide);have I2:Inv X pins σ H1 {s1 with heap:=s1.heap.push {cls:=.type "tuple", data:=.seq [u1,u2].toArray} }:=I1.kept (t':=s1.toks) fun b o e=>Zp _ e
 rw [hw];refine Zg (Zy ?_);show wpAny (model X.prog X.w) X.A (do rule "assign.swapped-stores"; let items <- unpackItems (.ref s1.heap.objs.size) 2 none;assignInOrder [fun v=>bindName X.env y v,fun v=>bindName X.env x v] items.reverse;pure Flow.next) _ _ _;refine Zg (U8 (Zg (unpackItems_tuple (items:=#[u1,u2]) (I.ok.hd hc) (IsTup.new s1.heap _) fun h' hx'=>?_)));have I3:=I2.kept (h':=h') (t':=s1.toks) fun b o e=>hx' b o (Z8 (Zs e)) e
 show wpAny _ _ (assignInOrder [fun v=>bindName X.env y v,fun v=>bindName X.env x v] [u2,u1] >>= fun _=>pure Flow.next) _ _ _;refine Zg (Jy (wpAny_bindName (zdw I3 hN hj (.inl hy) rw' (fun s2 I4=>?_) (.inr hy))));refine Jy (wpAny_bindName (zdw I4 hN hi (.inl hx) rv (fun s3 I5=>assignInOrder_nil (Zy ?_)) (.inr hx)));rw [List.set_comm _ _ (Wh hij)] at I5;exact⟨_,H1,I5,q1⟩
end
section
variable {X:Cx} {pos:Pos}
def tWhile (c:TT) (tb:TS):TS:=fun D σ H=>∃ W:Nat->St->Hp->Prop,(∃ m,W m σ H)/\∀ m σ H,W m σ H ->
 c σ H fun b H1=>if b=true then ∃ N:St->Hp->Prop,(∀ σ' H',N σ' H'->∃ m',m'<m/\W m' σ' H')/\tb {D with nx:=N,ct:=N,bk:=D.nx} σ H1 else D.nx σ H1
theorem zuz {c:Expr} {body:List Stmt} {tc:TT} {tb:TS} (hp:PassesOwn (model X.prog X.w) X.A X.env X.xe) (hc:PT X c tc) (hb:PSs X body tb):PS X (.While c body [] pos) (tWhile tc tb):=by
 intro pins s σ H D I h;obtain⟨W,⟨m0,w0⟩,turn⟩:=h
 refine wpAny_While (codeAny_whileLoop (fun n s'=>∃ σ' H',Inv X pins σ' H' s'/\W n σ' H') ?_ m0 ⟨σ,H,I,w0⟩);rintro n s1 ⟨σ1,H1,I1,w1⟩
 refine Qk hp (thn (hc pins s1 σ1 H1 _ I1 (turn n σ1 H1 w1)) fun b s2 ⟨H2,I2,q2⟩=>?_);cases b with
 | true=>
  obtain⟨N,hN,q2⟩:=q2
  rw [if_pos rfl];refine Qk hp (thn (hb pins s2 σ1 H2 _ I2 q2) fun f s3 q3=>?_);cases f with
  | next=>
   obtain⟨σ3,H3,I3,n3⟩:=q3
   obtain⟨m',hm,w3⟩:=hN σ3 H3 n3
   exact⟨m',hm,σ3,H3,I3,w3⟩
  | cont=>
   obtain⟨σ3,H3,I3,n3⟩:=q3
   obtain⟨m',hm,w3⟩:=hN σ3 H3 n3
   exact⟨m',hm,σ3,H3,I3,w3⟩
  | brk=>exact q3
  | ret v=>exact q3
 | false=>
  rw [if_neg Zx];exact Ut ⟨σ1,H2,I2,q2⟩
end
structure It where
 go:Nat->Hp->Prop
 yld:Nat->Hp->V->Hp->Prop
 stop:Nat->Hp->Prop
def FpOk (X:Cx) (pins:List (Addr×Obj)) (H:Hp) (b:Addr):Prop:=
 H b=none/\b≠X.env.locals/\b∉X.fs/\(b∈X.ex\/X.s₀.heap.objs.size<=b)/\(∀ x c,X.env.cells.lookup x=some c->c≠b)/\∀ p∈X.pn++pins,p.1≠b
theorem Inv.fpOk {X:Cx} {pins:List (Addr×Obj)} {σ:St} {H H':Hp} {s:Shared} {b:Addr} (I:Inv X pins σ H s) (hb:s.heap.objs.size<=b) (hn:H' b=none):FpOk X pins H' b:=by
 refine⟨hn,Z4 (Zd I.lt hb),I.nofs hb,.inr (Ya I.sz hb),fun x c e z=>?_,fun p hp z=>?_⟩
 ·obtain⟨v,q⟩:=I.cell x c e
  exact absurd (Zd q.lt (by rw [z];exact hb)) (Nat.lt_irrefl _)
 ·exact absurd (Zd (Zs (I.pin p hp).1) (by rw [z];exact hb)) (Nat.lt_irrefl _)
structure Turn (P:Program) (w:World) (K:PySem.W.Frag) (tg:Expr) (J:It) (fp:List Addr) (it:Addr) (tn:Nat->Heap->Prop):Prop where
 mem:it∈fp
 obj:∀ i h,tn i h->∀ b∈fp,∃ o,h.get? b=some o/\∀ v,o.data ≠ .cell v
 keep:∀ i h h',tn i h->(∀ b∈fp,∀ o,h.get? b=some o->h'.get? b=some o)->tn i h'
 item:∀ (X:Cx),X.prog=P->X.w=w->X.K=K->X.calm=true->∀ (i:Nat) (pins:List (Addr×Obj)) (s:Shared) (σ:St) (H:Hp) (E:Value->Shared->Prop),Inv X pins σ H s->(∀ b∈fp,FpOk X pins H b)->tn i s.heap->J.go i H ->
  wpAny (model P w) X.A (pyNext (.ref it)) (fun r s1=>∃ u,r=some u /\
   wpAny (model P w) X.A (letOwnedTupleGo tg (.ref it) u) (fun _ s2=>∃ x H',Inv X pins σ H' s2/\RelV x u/\J.yld i H x H'/\tn (i+1) s2.heap/\∀ b∈fp,H' b=none) E s1) E s
 done:∀ (X:Cx),X.prog=P->X.w=w->X.K=K->X.calm=true->∀ (i:Nat) (pins:List (Addr×Obj)) (s:Shared) (σ:St) (H:Hp) (E:Value->Shared->Prop),Inv X pins σ H s->(∀ b∈fp,FpOk X pins H b)->tn i s.heap->J.stop i H ->
  wpAny (model P w) X.A (pyNext (.ref it)) (fun r s1=>r=none/\Inv X pins σ H s1) E s
 self:∀ (A:Around) (i:Nat) (s:Shared) (Q:Value->Shared->Prop) (E:Value->Shared->Prop),tn i s.heap->Q (.ref it) s->wpAny (model P w) A (pyIter (.ref it)) Q E s
abbrev TI:=St->Hp->(It->Hp->Prop)->Prop
def PIE (X:Cx) (pins:List (Addr×Obj)) (σ:St) (tg:Expr) (R:It->Hp->Prop) (itv:Value) (s2:Shared):Prop:=
 ∃ (it:Addr) (fp:List Addr) (tn:Nat->Heap->Prop) (J:It) (H':Hp),itv=.ref it/\Inv X pins σ H' s2/\Turn X.prog X.w X.K tg J fp it tn/\tn 0 s2.heap/\(∀ b∈fp,FpOk X pins H' b)/\R J H'
def PI (X:Cx) (tg iter:Expr) (wi:TI):Prop:=
 ∀ (pins:List (Addr×Obj)) (s:Shared) (σ:St) (H:Hp) (R:It->Hp->Prop),Inv X pins σ H s->wi σ H R ->
  wpAny (model X.prog X.w) X.A (eval iter X.env) (fun v s1=>wpAny (model X.prog X.w) X.A (pyIter v) (PIE X pins σ tg R) X.xe s1) X.xe s
theorem zvx {M:Model} {A:Around} {E:Value->Shared->Prop} {s:Shared} {tg:Expr} {it:Addr} {u:Value} {o:Obj} {n:String} {vs:Array Value} {Q:Unit->Shared->Prop} (ho:s.heap.get? it=some o) (hc:o.cls=.type n) (hd:o.data=.fields vs)
    (hn:["enumerate", "zip", "dict_itemiterator", "dict_reverseitemiterator", "odict_iterator", "itertools.zip_longest", "itertools.pairwise"].contains n=false) (hQ:Q () s):wpAny M A (letOwnedTupleGo tg (.ref it) u) Q E s:=by
  unfold letOwnedTupleGo;cases tg <;> first
    | exact Zy hQ
    | (cases u <;> first
        | exact Zy hQ
        | (refine Zg (wpAny_load ho ?_)
           rw [hc,hd];show wpAny M A (if (["enumerate", "zip", "dict_itemiterator", "dict_reverseitemiterator", "odict_iterator", "itertools.zip_longest", "itertools.pairwise"].contains n && vs[0]? == some (rawInt _))=true then _ else _) Q E s;rw [if_neg (by intro h;rw [hn,Bool.false_and] at h;cases h)];exact Zy hQ))
def Itl (K:PySem.W.Frag) (a:Addr):It:=
 ⟨fun i H=>∃ xs x,SqL K H a xs/\xs[i]? = some x,fun i H x H'=>H'=H/\∀ xs,SqL K H a xs->xs[i]? = some x,fun i H=>∃ xs,SqL K H a xs/\xs.length<=i⟩
def Itt (K:PySem.W.Frag) (a:Addr):It:=
 ⟨fun i H=>∃ xs x,SqT K H a xs/\xs[i]? = some x,fun i H x H'=>H'=H/\∀ xs,SqT K H a xs->xs[i]? = some x,fun i H=>∃ xs,SqT K H a xs/\xs.length<=i⟩
def Itr (lo:Int) (n:Nat):It:=⟨fun i _=>i<n,fun i H x H'=>H'=H/\x=.int (lo+i),fun i _=>n<=i⟩
theorem zpf {P:Program} {w:World} {K:PySem.W.Frag} {tg:Expr} (a it:Addr):Turn P w K tg (Itl K a) [it] it (fun i h=>h.IsListIter it a i) where
 mem:=by simp
 obj:=fun i h st b hb=>by
  have e:b=it:=by simpa using hb
  subst e;obtain⟨o,e,c,d⟩:=st
  exact⟨o,e,fun v z=>by rw [d] at z;cases z⟩
 keep:=fun i h h' st k=>st.at fun o e=>k it (by simp) o e
 item:=by
  intro X hP hw hK hc i pins s σ H E I hf st hg;subst hP hw hK;obtain⟨xs,x,hq,hx⟩:=hg
  obtain⟨its,rv,p,hz⟩:=I.list hq
  obtain⟨u,hu,ru⟩:=rv.get hx
  obtain⟨f0,f1,f2,f3,f4,f5⟩:=hf it (by simp)
  refine Vo st p.isList (x:=u) (by simpa using hu) fun h' st' sb=>?_;have I1:Inv X pins σ H {s with heap:=h'}:=I.turned (t':=s.toks) (fun b o hb e=>(sb.2 b hb).trans e) f0 f1 f3 f4 f5;obtain⟨o,e,c,d⟩:=id st'
  exact⟨u,rfl,zvx (s:={s with heap:=h'}) e c d (by decide) ⟨x,H,I1,ru,⟨rfl,fun ys hy=>by rw [I.list_inj hy hq];exact hx⟩,st',fun b hb=>(hf b hb).1⟩⟩
 done:=by
  intro X hP hw hK hc i pins s σ H E I hf st hg;subst hP hw hK;obtain⟨xs,hq,hx⟩:=hg
  obtain⟨its,rv,p,hz⟩:=I.list hq
  obtain⟨f0,f1,f2,f3,f4,f5⟩:=hf it (by simp)
  have hl:=rv.length;exact Vx (I.ok.hd hc) st p.isList (by simp;omega) fun h' eb=>⟨rfl,I.turned (t':=s.toks) (fun b o hb e=>eb b o hb e) f0 f1 f3 f4 f5⟩
 self:=fun _ _ _ _ _ st h=>wpAny_pyIter_listiter st h
theorem znu {P:Program} {w:World} {K:PySem.W.Frag} {tg:Expr} (a it:Addr):Turn P w K tg (Itt K a) [it] it (fun i h=>h.IsTupleIter it a i) where
 mem:=by simp
 obj:=fun i h st b hb=>by
  have e:b=it:=by simpa using hb
  subst e;obtain⟨o,e,c,d⟩:=st
  exact⟨o,e,fun v z=>by rw [d] at z;cases z⟩
 keep:=fun i h h' st k=>st.at fun o e=>k it (by simp) o e
 item:=by
  intro X hP hw hK hc i pins s σ H E I hf st hg;subst hP hw hK;obtain⟨xs,x,hq,hx⟩:=hg
  obtain⟨its,rv,p,hz⟩:=I.tuple hq
  obtain⟨u,hu,ru⟩:=rv.get hx
  obtain⟨f0,f1,f2,f3,f4,f5⟩:=hf it (by simp)
  refine wpAny_pyNext_tuple_item st (show s.heap.IsTuple a its.toArray from p) (x:=u) (by simpa using hu) fun h' st' sb=>?_;have I1:Inv X pins σ H {s with heap:=h'}:=I.turned (t':=s.toks) (fun b o hb e=>(sb.2 b hb).trans e) f0 f1 f3 f4 f5;obtain⟨o,e,c,d⟩:=id st'
  exact⟨u,rfl,zvx (s:={s with heap:=h'}) e c d (by decide) ⟨x,H,I1,ru,⟨rfl,fun ys hy=>by rw [I.tuple_inj hy hq];exact hx⟩,st',fun b hb=>(hf b hb).1⟩⟩
 done:=by
  intro X hP hw hK hc i pins s σ H E I hf st hg;subst hP hw hK;obtain⟨xs,hq,hx⟩:=hg
  obtain⟨its,rv,p,hz⟩:=I.tuple hq
  obtain⟨f0,f1,f2,f3,f4,f5⟩:=hf it (by simp)
  have hl:=rv.length;exact wpAny_pyNext_tuple_end (I.ok.hd hc) st (show s.heap.IsTuple a its.toArray from p) (by simp;omega) fun h' eb=>⟨rfl,I.turned (t':=s.toks) (fun b o hb e=>eb b o hb e) f0 f1 f3 f4 f5⟩
 self:=fun _ _ _ _ _ st h=>wpAny_pyIter_tupleiter st h
theorem znv {P:Program} {w:World} {K:PySem.W.Frag} {tg:Expr} (it:Addr) (lo:Int) (n:Nat):Turn P w K tg (Itr lo n) [it] it (fun i h=>IsRangeIter h it (lo+(i:Nat)*1) ((n:Int)-(i:Nat)) 1) where
 mem:=by simp
 obj:=fun i h st b hb=>by
  have e:b=it:=by simpa using hb
  subst e;exact⟨_,st,fun v z=>by
   have z':Data.fields _=Data.cell v:=z;cases z'⟩
 keep:=fun i h h' st k=>k it (by simp) _ st
 item:=by
  intro X hP hw hK hc i pins s σ H E I hf st hg;subst hP hw hK;obtain⟨f0,f1,f2,f3,f4,f5⟩:=hf it (by simp)
  have W:=Walks.range (prog:=X.prog) (w:=X.w) (I.ok.hd hc) it lo 1 n;refine W.item i s _ _ hg st fun v h' tk hv st' kk=>?_;obtain⟨t,rfl⟩:=hv
  have I1:Inv X pins σ H {s with heap:=h',toks:=tk}:=I.turned (fun b o hb e=>kk b o (by simpa using hb) e) f0 f1 f3 f4 f5;refine⟨_,rfl,zvx (s:={s with heap:=h',toks:=tk}) (n := "range_iterator") st' rfl rfl (by decide) ⟨.int (lo+i),H,I1,⟨t,?_⟩,⟨rfl,rfl⟩,st',fun b hb=>(hf b hb).1⟩⟩
  rw [Ui]
 done:=by
  intro X hP hw hK hc i pins s σ H E I hf st hg;subst hP hw hK;obtain⟨f0,f1,f2,f3,f4,f5⟩:=hf it (by simp)
  exact wpAny_pyNext_range_end (I.ok.hd hc) st (by have:n<=i:=hg;omega) fun h' eb=>⟨rfl,I.turned (t':=s.toks) (fun b o hb e=>eb b o hb e) f0 f1 f3 f4 f5⟩
 self:=fun _ _ _ _ _ st h=>wpAny_pyIter_rangeiter st h
end L2
namespace L2
open PySem PySem.Spec PyProof.Rows
section
variable {X:Cx} {tg:Expr}
def iList (K:PySem.W.Frag) (tl:TE):TI:=fun σ H R=>tl σ H fun x H1=>∃ a,x=.ref a/\(∃ xs,SqL K H1 a xs)/\R (Itl K a) H1
def iTup (K:PySem.W.Frag) (tl:TE):TI:=fun σ H R=>tl σ H fun x H1=>∃ a,x=.ref a/\(∃ xs,SqT K H1 a xs)/\R (Itt K a) H1
theorem zkt {l:Expr} {tl:TE} (hl:PE X l tl):PI X tg l (iList X.K tl):=by
 intro pins s σ H R I h;refine thn (hl pins s σ H _ I h) fun v s1 ⟨x,H1,I1,r1,q1⟩=>?_;obtain⟨a,e,⟨xs,hq⟩,q⟩:=q1
 subst e;cases r1;obtain⟨its,rv,p,hz⟩:=I1.list hq
 refine Uc p.isList ?_;refine⟨s1.heap.objs.size,[s1.heap.objs.size],_,_,H1,rfl,I1.kept (t':=s1.toks) fun b o e=>Zp _ e,zpf a _,⟨_,Yf _ rfl,rfl,rfl⟩,fun b hb=>?_,q⟩
 have e:b=s1.heap.objs.size:=by simpa using hb
 subst e;exact I1.fpOk (Zj _) (I1.hok.fresh (Zj _))
theorem zqj {l:Expr} {tl:TE} (hl:PE X l tl):PI X tg l (iTup X.K tl):=by
 intro pins s σ H R I h;refine thn (hl pins s σ H _ I h) fun v s1 ⟨x,H1,I1,r1,q1⟩=>?_;obtain⟨a,e,⟨xs,hq⟩,q⟩:=q1
 subst e;cases r1;obtain⟨its,rv,p,hz⟩:=I1.tuple hq
 refine wpAny_pyIter_tuple (show s1.heap.IsTuple a its.toArray from p) ?_;refine⟨s1.heap.objs.size,[s1.heap.objs.size],_,_,H1,rfl,I1.kept (t':=s1.toks) fun b o e=>Zp _ e,znu a _,⟨_,Yf _ rfl,rfl,rfl⟩,fun b hb=>?_,q⟩
 have e:b=s1.heap.objs.size:=by simpa using hb
 subst e;exact I1.fpOk (Zj _) (I1.hok.fresh (Zj _))
theorem zme {pins:List (Addr×Obj)} {σ:St} {H:Hp} {s:Shared} {R:It->Hp->Prop} {E:Value->Shared->Prop} {lo hi:Int} {t u v:Tok} {tk:Nat} (I:Inv X pins σ H s) (h1 : -(2^62)<=lo) (h2:lo<2^62) (h3 : -(2^62)<=hi) (h4:hi<2^62)
  (q:R (Itr lo (hi-lo).toNat) H):wpAny (model X.prog X.w) X.A (pyIter (.ref s.heap.objs.size)) (PIE X pins σ tg R) E {s with heap:=s.heap.push {cls:=.type "range", data:=.fields #[.int lo t,.int hi u,.int 1 v]},toks:=tk}:=by
 refine wpAny_pyIter_range (IsRange.new ..) (small_one h1 h2 h3 h4) ?_;have I1:Inv X pins σ H {s with heap:=s.heap.push {cls:=.type "range", data:=.fields #[.int lo t,.int hi u,.int 1 v]},toks:=tk}:=I.kept fun b o e=>Zp _ e
 refine⟨(s.heap.push {cls:=.type "range", data:=.fields #[.int lo t,.int hi u,.int 1 v]}).objs.size,[(s.heap.push {cls:=.type "range", data:=.fields #[.int lo t,.int hi u,.int 1 v]}).objs.size],_,_,H,rfl,
  I1.kept (t':=tk) fun b o e=>Zp _ e,znv _ lo (hi-lo).toNat,?_,fun b hb=>?_,q⟩
 ·have e1:lo+((0:Nat):Int)*1=lo:=by simp
  have e2:(((hi-lo).toNat:Nat):Int)-((0:Nat):Int)=Builtin.Range.rangeSize lo hi 1:=by rw [rangeSize_one];split <;> omega
  show IsRangeIter _ _ (lo+((0:Nat):Int)*1) ((((hi-lo).toNat:Nat):Int)-((0:Nat):Int)) 1;rw [e1,e2];exact Yf _ rfl
 ·have e:b=(s.heap.push {cls:=.type "range", data:=.fields #[.int lo t,.int hi u,.int 1 v]}).objs.size:=by simpa using hb
  subst e;exact I1.fpOk (Zj _) (I1.hok.fresh (Zj _))
def iRng1 (ta:TA):TI:=fun σ H R=>ta σ H fun vs H1=>∃ j:Int,vs=[.int j] /\ -(2^62)<=j/\j<2^62/\R (Itr 0 j.toNat) H1
def iRng2 (ta:TA):TI:=fun σ H R=>ta σ H fun vs H1=>∃ i j:Int,vs=[.int i,.int j]/\(-(2^62)<=i/\i<2^62 /\ -(2^62)<=j/\j<2^62)/\R (Itr i (j-i).toNat) H1
theorem zje {a:Expr} {ta:TA} {p pos:Pos} (hg:Gl X "range") (hm:X.mg "range" = none) (ha:PA X [a] ta) (hs:starEach [a] X.env=[(false,eval a X.env)]:=by rfl):PI X tg (.Call (.Name "range" p) [a] [] pos) (iRng1 ta):=by
 intro pins s σ H R I h;refine Call_ (zcl I hg hm boot_range (Yu (thn (ha pos pins s σ H _ I h) fun us s1 ⟨vs,H1,I1,r1,q1⟩=>?_) hs rfl));obtain⟨j,e,q1,q2,q⟩:=q1
 subst e;cases r1 with
 | cons r rr=>
  cases rr;obtain⟨t,rfl⟩:=r
  exact call_range_1 (zme I1 (by omega) (by omega) q1 q2 (by simpa using q))
theorem zjd {a b:Expr} {ta:TA} {p pos:Pos} (hg:Gl X "range") (hm:X.mg "range" = none) (ha:PA X [a,b] ta) (hs:starEach [a,b] X.env=[(false,eval a X.env),(false,eval b X.env)]:=by rfl) (hs2:starEach [b] X.env=[(false,eval b X.env)]:=by rfl) :
  PI X tg (.Call (.Name "range" p) [a,b] [] pos) (iRng2 ta):=by
 intro pins s σ H R I h;refine Call_ (zcl I hg hm boot_range (Yu (thn (ha pos pins s σ H _ I h) fun us s1 ⟨vs,H1,I1,r1,q1⟩=>?_) (by rw [hs,hs2]) (by rw [hs2];rfl)));obtain⟨i,j,e,⟨q1,q2,q3,q4⟩,q⟩:=q1
 subst e;cases r1 with
 | cons r rr=>
  cases rr with
  | cons r' rr=>
   cases rr;obtain⟨t,rfl⟩:=r
   obtain⟨t',rfl⟩:=r'
   exact call_range_2 (zme I1 q1 q2 q3 q4 q)
def tFor (wi:TI) (g:TG) (tb:TS):TS:=fun D σ H=>wi σ H fun J H1=>∃ W:Nat->Nat->St->Hp->Prop,(∃ m,W 0 m σ H1)/\∀ i m σ H,W i m σ H ->
 (J.stop i H/\D.nx σ H)\/(J.go i H/\∃ N:St->Hp->Prop,(∀ σ' H',N σ' H'->∃ m',m'<m/\W (i+1) m' σ' H')/\∀ x H',J.yld i H x H'->g x σ H' fun σ2 H2=>tb {D with nx:=N,ct:=N,bk:=D.nx} σ2 H2)
def zgs (fp:List Addr) (h:Heap):List (Addr×Obj):=fp.filterMap fun b=>(h.get? b).map fun o=>(b,o)
theorem zbj {fp:List Addr} {h:Heap} {b:Addr} {o:Obj} (hb:b∈fp) (e:h.get? b=some o):(b,o)∈zgs fp h:=Ji.mpr ⟨b,hb,by rw [e];rfl⟩
theorem zqp {fp:List Addr} {h:Heap} {p:Addr×Obj} (hp:p∈zgs fp h):p.1∈fp/\h.get? p.1=some p.2:=by
 obtain⟨b,hb,e⟩:=Ji.mp hp
 cases q:h.get? b with
 | none=>rw [q] at e;cases e
 | some o=>
  rw [q] at e;have e':(b,o)=p:=Z3 e;subst e';exact⟨hb,q⟩
theorem Inv.pinned {pins:List (Addr×Obj)} {σ:St} {H:Hp} {s:Shared} {fp:List Addr} (I:Inv X pins σ H s) (hf:∀ b∈fp,FpOk X pins H b) (ho:∀ b∈fp,∃ o,s.heap.get? b=some o/\∀ v,o.data ≠ .cell v):Inv X (pins++zgs fp s.heap) σ H s:=
 I.pins_of fun p hp=>(Ys.mp hp).elim (fun z=>I.pin p (Z6 _ z)) fun z=>by
  obtain⟨hb,e⟩:=zqp z
  obtain⟨f0,f1,f2,_⟩:=hf p.1 hb
  obtain⟨o,e',d⟩:=ho p.1 hb
  rw [e] at e';cases e';exact⟨e,f0,f1,f2,d⟩
theorem Inv.unpinned {pins pl:List (Addr×Obj)} {σ:St} {H:Hp} {s:Shared} (I:Inv X (pins++pl) σ H s):Inv X pins σ H s:=I.pins_of fun p hp=>I.pin p (Z6 _ (W3 _ hp))
theorem ps_for {iter:Expr} {body:List Stmt} {wi:TI} {g:TG} {tb:TS} {pos:Pos} (hp:PassesOwn (model X.prog X.w) X.A X.env X.xe) (hc:X.calm=true) (hi:PI X tg iter wi) (hg:PG X tg g) (hb:PSs X body tb)
  (hs:∀ x,foldedSetIterable iter X.env x=pure x:=by intro _;rfl):PS X (.For tg iter body [] pos) (tFor wi g tb):=by
 intro pins s σ H D I h;refine wpAny_For (thn (hi pins s σ H _ I h) fun v s1 h1=>thn h1 fun itv s2 h2=>?_) hs;obtain⟨it,fp,tn,J,H2,e,I2,T,st2,f2,W,⟨m0,w0⟩,turn⟩:=h2
 subst e;have stat:∀ {H':Hp},(∀ b∈fp,H' b=none)->∀ b∈fp,FpOk X pins H' b:=fun hn b hb=>⟨hn b hb,(f2 b hb).2⟩
 refine codeAny_forLoop_any (fun n s'=>∃ i σ' H',Inv X pins σ' H' s'/\tn i s'.heap/\(∀ b∈fp,H' b=none)/\W i n σ' H') ?_ m0 ⟨0,σ,H2,I2,st2,fun b hb=>(f2 b hb).1,w0⟩;rintro n s3 ⟨i,σ3,H3,I3,st3,fr3,w3⟩
 rcases turn i n σ3 H3 w3 with⟨stop,qn⟩ | ⟨go,N,hN,step⟩
 ·refine Qk hp (thn (T.done X rfl rfl rfl hc i pins s3 σ3 H3 X.xe I3 (stat fr3) st3 stop) fun r s4 ⟨hr,I4⟩=>?_);subst hr;exact Ut ⟨σ3,H3,I4,qn⟩
 ·refine Qk hp (thn (T.item X rfl rfl rfl hc i pins s3 σ3 H3 X.xe I3 (stat fr3) st3 go) fun r s4 ⟨u,hr,h4⟩=>?_);subst hr;refine Qk hp (thn h4 fun _ s5 ⟨x,H5,I5,r5,y5,st5,fr5⟩=>?_);have I5':=I5.pinned (stat fr5) (T.obj _ _ st5);refine Qk hp (thn (hg _ s5 σ3 H5 x u _ I5' r5 (step x H5 y5)) fun _ s6 ⟨σ6,H6,I6,q6⟩=>?_);refine Qk hp (thn (hb _ s6 σ6 H6 _ I6 q6) fun f s7 q7=>?_);have again:∀ {σ7:St} {H7:Hp},Inv X (pins++zgs fp s5.heap) σ7 H7 s7->N σ7 H7->∃ m,m<n/\∃ i σ' H',Inv X pins σ' H' s7/\tn i s7.heap/\(∀ b∈fp,H' b=none)/\W i m σ' H':=fun {σ7 H7} I7 n7=>by
   obtain⟨m',hm,w7⟩:=hN σ7 H7 n7
   refine⟨m',hm,i+1,σ7,H7,I7.unpinned,T.keep _ _ _ st5 fun b hb o e=>(I7.pin (b,o) (Z6 _ (Z6 _ (zbj hb e)))).1,fun b hb=>?_,w7⟩
   obtain⟨o,e,d⟩:=T.obj _ _ st5 b hb
   exact (I7.pin (b,o) (Z6 _ (Z6 _ (zbj hb e)))).2.1
  cases f with
  | next=>obtain⟨σ7,H7,I7,n7⟩:=q7;exact again I7 n7
  | cont=>obtain⟨σ7,H7,I7,n7⟩:=q7;exact again I7 n7
  | brk=>obtain⟨σ7,H7,I7,q7⟩:=q7;exact⟨σ7,H7,I7.unpinned,q7⟩
  | ret v=>obtain⟨x7,σ7,H7,I7,r7,q7⟩:=q7;exact⟨x7,σ7,H7,I7.unpinned,r7,q7⟩
end
end L2
namespace L2
open PySem PySem.Spec PyProof.Rows
abbrev R2:=V->V->Hp->VK->Prop
def OpR (X:Cx) (f:Value->Value->Sem Value) (r:R2):Prop:=
 ∀ (pins:List (Addr×Obj)) (s:Shared) (σ:St) (H:Hp) (x y:V) (v u:Value) (Q:VK),Inv X pins σ H s->RelV x v->RelV y u->r x y H Q ->
  wpAny (model X.prog X.w) X.A (f v u) (EP X pins σ Q) X.xe s
def UnR (X:Cx) (f:Value->Sem Value) (r:V->Hp->VK->Prop):Prop:=
 ∀ (pins:List (Addr×Obj)) (s:Shared) (σ:St) (H:Hp) (x:V) (v:Value) (Q:VK),Inv X pins σ H s->RelV x v->r x H Q ->
  wpAny (model X.prog X.w) X.A (f v) (EP X pins σ Q) X.xe s
def zde (X:Cx) (f:Value) (r:List V->Hp->VK->Prop):Prop:=
 ∀ (pins:List (Addr×Obj)) (s:Shared) (σ:St) (H:Hp) (xs:List V) (us:List Value) (Q:VK),Inv X pins σ H s->Vals xs us->r xs H Q ->
  wpAny (model X.prog X.w) X.A (call f us) (EP X pins σ Q) X.xe s
def tOp (r:R2) (ta tb:TE):TE:=fun σ H Q=>ta σ H fun x H1=>tb σ H1 fun y H2=>r x y H2 Q
def tUn (r:V->Hp->VK->Prop) (ta:TE):TE:=fun σ H Q=>ta σ H fun x H1=>r x H1 Q
def rI (C:Int->Int->Prop) (g:Int->Int->V):R2:=fun x y H Q=>∃ i j,x=.int i/\y=.int j/\C i j/\Q (g i j) H
def rI0 (g:Int->Int->V):R2:=fun x y H Q=>∃ i j,x=.int i/\y=.int j/\Q (g i j) H
def rU (g:Int->V):V->Hp->VK->Prop:=fun x H Q=>∃ i,x=.int i/\Q (g i) H
section
variable {X:Cx} {a b c:Expr} {ta tb tc:TE} {pos:Pos}
theorem binT (ha:PE X a ta) (hb:PE X b tb) {pins:List (Addr×Obj)} {s:Shared} {σ:St} {H:Hp} {R:V->V->Hp->Prop} (I:Inv X pins σ H s)
  (h:ta σ H fun x H1=>tb σ H1 fun y H2=>R x y H2) {Q:Value->Shared->Prop} {f:Value->Value->Sem Value}
  (hf:∀ v u s2 x y H2,Inv X pins σ H2 s2->RelV x v->RelV y u->R x y H2->wpAny (model X.prog X.w) X.A (f v u) Q X.xe s2) :
  wpAny (model X.prog X.w) X.A (eval a X.env) (fun v s₁=>wpAny (model X.prog X.w) X.A (eval b X.env) (fun u s₂=>wpAny (model X.prog X.w) X.A (f v u) Q X.xe s₂) X.xe s₁) X.xe s:=by
 refine thn (ha pins s σ H _ I h) fun v s1 ⟨x,H1,I1,r1,q1⟩=>?_;refine thn (hb pins s1 σ H1 _ I1 q1) fun u s2 ⟨y,H2,I2,r2,q2⟩=>?_;exact hf v u s2 x y H2 I2 r1 r2 q2
theorem ybb {op:Operator} {r:R2} (ho:OpR X (binaryOp op) r) (ha:PE X a ta) (hb:PE X b tb):PE X (.BinOp a op b pos) (tOp r ta tb):=by
 intro pins s σ H Q I h;exact wpAny_BinOp (binT ha hb I h fun v u s2 x y H2 I2 rx ry q=>ho pins s2 σ H2 x y v u Q I2 rx ry q)
theorem pe_un {op:UnaryOp} {r:V->Hp->VK->Prop} (ho:UnR X (unaryOp op) r) (ha:PE X a ta):PE X (.UnaryOp op a pos) (tUn r ta):=by
 intro pins s σ H Q I h;exact UnaryOp_ (thn (ha pins s σ H _ I h) fun v s1 ⟨x,H1,I1,r1,q1⟩=>ho pins s1 σ H1 x v Q I1 r1 q1)
theorem opI {f:Value->Value->Sem Value} {C:Int->Int->Prop} {g:Int->Int->Int}
  (rule:∀ (i j:Int) (t u:Tok) (s:Shared) (Q:Value->Shared->Prop) (E:Value->Shared->Prop),C i j->Q (.int (g i j) s.toks) {s with toks:=s.toks+1}->wpAny (model X.prog X.w) X.A (f (.int i t) (.int j u)) Q E s) :
  OpR X f (rI C fun i j=>.int (g i j)):=by
 intro pins s σ H x y v u Q I rx ry h;obtain⟨i,j,rfl,rfl,hc,q⟩:=h
 obtain⟨t,rfl⟩:=rx
 obtain⟨t',rfl⟩:=ry
 exact rule i j t t' s _ _ hc ⟨.int (g i j),H,I.tok _,⟨_,rfl⟩,q⟩
theorem opI0 {f:Value->Value->Sem Value} {g:Int->Int->Int}
  (rule:∀ (i j:Int) (t u:Tok) (s:Shared) (Q:Value->Shared->Prop) (E:Value->Shared->Prop),Q (.int (g i j) s.toks) {s with toks:=s.toks+1}->wpAny (model X.prog X.w) X.A (f (.int i t) (.int j u)) Q E s) :
  OpR X f (rI0 fun i j=>.int (g i j)):=by
 intro pins s σ H x y v u Q I rx ry h;obtain⟨i,j,rfl,rfl,q⟩:=h
 obtain⟨t,rfl⟩:=rx
 obtain⟨t',rfl⟩:=ry
 exact rule i j t t' s _ _ ⟨.int (g i j),H,I.tok _,⟨_,rfl⟩,q⟩
theorem opB0 {f:Value->Value->Sem Value} {g:Int->Int->Bool}
  (rule:∀ (i j:Int) (t u:Tok) (s:Shared) (Q:Value->Shared->Prop) (E:Value->Shared->Prop),Q (.bool (g i j)) s->wpAny (model X.prog X.w) X.A (f (.int i t) (.int j u)) Q E s) :
  OpR X f (rI0 fun i j=>.bl (g i j)):=by
 intro pins s σ H x y v u Q I rx ry h;obtain⟨i,j,rfl,rfl,q⟩:=h
 obtain⟨t,rfl⟩:=rx
 obtain⟨t',rfl⟩:=ry
 exact rule i j t t' s _ _ ⟨.bl (g i j),H,I,rfl,q⟩
def CDiv (i j:Int):Prop:=0<j/\j<1073741824
def CPow (i j:Int):Prop:=0<=j/\j<=1000000/\i.natAbs<2^64
def CMul (i j:Int):Prop:=(-(2^64)<i/\i<2^64)\/(-(2^64)<j/\j<2^64)
theorem CMul.ok {i j:Int} (h:CMul i j):IntMulOk i j:=by
 rcases h with⟨h1,h2⟩ | ⟨h1,h2⟩
 ·exact .of_left (intBits_le_64 h1 h2)
 ·exact .of_right (intBits_le_64 h1 h2)
theorem op_add:OpR X (binaryOp .Add) (rI0 fun i j=>.int (i+j)):=opI0 fun _ _ _ _ _ _ _ q=>add_int q
theorem op_sub:OpR X (binaryOp .Sub) (rI0 fun i j=>.int (i-j)):=opI0 fun _ _ _ _ _ _ _ q=>sub_int q
theorem op_mul:OpR X (binaryOp .Mult) (rI CMul fun i j=>.int (i*j)):=opI fun _ _ _ _ _ _ _ hc q=>mul_int q hc.ok
theorem op_fdiv:OpR X (binaryOp .FloorDiv) (rI CDiv fun i j=>.int (i/j)):=opI fun i j _ _ _ _ _ hc q=>by
 have h1:(0:Int)<j:=hc.1;have h2:j<1073741824:=hc.2;exact floordiv_int (by omega) (by rw [Kq i (by omega)];exact q) (.inl (PyProof.noPylong_small (by omega)))
theorem op_mod:OpR X (binaryOp .Mod) (rI (fun _ j=>0<j) fun i j=>.int (i%j)):=opI fun i j _ _ _ _ _ hc q=>by
 have h1:(0:Int)<j:=hc;exact mod_int' (by omega) (by rw [Qi i (by omega)];exact q)
theorem ybi:OpR X (binaryOp .Mod) (rI (fun _ j=>j≠0) fun i j=>.int (i.fmod j)):=opI fun _ _ _ _ _ _ _ hc q=>mod_int' hc q
theorem op_pow:OpR X (binaryOp .Pow) (rI CPow fun i j=>.int (i^j.toNat)):=opI fun _ _ _ _ _ _ _ hc q=>pow_int_small hc.1 hc.2.1 hc.2.2 q
theorem unI {f:Value->Sem Value} {g:Int->Int}
  (rule:∀ (i:Int) (t:Tok) (s:Shared) (Q:Value->Shared->Prop) (E:Value->Shared->Prop),Q (.int (g i) s.toks) {s with toks:=s.toks+1}->wpAny (model X.prog X.w) X.A (f (.int i t)) Q E s) :
  UnR X f (rU fun i=>.int (g i)):=by
 intro pins s σ H x v Q I rx h;obtain⟨i,rfl,q⟩:=h
 obtain⟨t,rfl⟩:=rx
 exact rule i t s _ _ ⟨.int (g i),H,I.tok _,⟨_,rfl⟩,q⟩
theorem un_neg:UnR X (unaryOp .USub) (rU fun i=>.int (-i)):=unI fun _ _ _ _ _ q=>neg_int q
end
def scal:V->V->Bool
 | .non,.non=>true | .non,.int _=>true | .int _,.non=>true | .non,.bl _=>true | .bl _,.non=>true | .non,.str _=>true | .str _,.non=>true
 | .int _,.int _=>true | .bl _,.bl _=>true | .str _,.str _=>true | .byt _,.byt _=>true
 | .int _,.str _=>true | .str _,.int _=>true | .bl _,.str _=>true | .str _,.bl _=>true
 | _,_=>false
def rEq:R2:=fun x y H Q=>scal x y=true/\Q (.bl (decide (x=y))) H
def rNe:R2:=fun x y H Q=>scal x y=true/\Q (.bl (!decide (x=y))) H
theorem zhx {i j:Int}:decide (V.int i=V.int j)=(i == j):=by
 rw [Kn];simp
theorem znh {i j:Bool}:decide (V.bl i=V.bl j)=(i == j):=by
 rw [Kn];simp
theorem zrz {i j:Str}:decide (V.str i=V.str j)=(i == j):=by
 rw [Kn];simp
theorem zsa {i j:Array UInt8}:decide (V.byt i=V.byt j)=(i.toList == j.toList):=by
 rw [Kn];cases i;cases j;simp
section
variable {X:Cx} {a b c:Expr} {ta tb tc:TE} {pos:Pos}
theorem Gs {pins:List (Addr×Obj)} {σ:St} {H:Hp} {s:Shared} {Q:VK} {k k':Bool} (I:Inv X pins σ H s) (q:Q (.bl k) H) (e:k=k'):EP X pins σ Q (.bool k') s:=by
 subst e;exact⟨.bl k,H,I,rfl,q⟩
theorem op_eq:OpR X (compareOp .Eq) rEq:=by
 intro pins s σ H x y v u Q I rx ry h;obtain⟨hs,q⟩:=h
 cases x with
 | non=>
  cases rx;cases y with
  | non=>cases ry;exact PySem.EqNone.eq_none_none (Gs I q (by simp))
  | bl j=>cases ry;exact PySem.EqNone.eq_none_bool (Gs I q (by simp))
  | int j=>obtain⟨t',rfl⟩:=ry;exact PySem.EqNone.eq_none_int (Gs I q (by simp))
  | str j=>obtain⟨t',rfl⟩:=ry;exact PySem.EqNone.eq_none_str (Gs I q (by simp))
  | _=>exact absurd (show false=true from hs) Zx
 | bl i=>
  cases rx;cases y with
  | non=>cases ry;exact PySem.EqNone.eq_bool_none (Gs I q (by simp))
  | bl j=>cases ry;exact eq_bool (Gs I q znh)
  | str j=>obtain⟨t',rfl⟩:=ry;exact PySem.EqMixed.eq_bool_str (Gs I q (by simp))
  | _=>exact absurd (show false=true from hs) Zx
 | int i=>
  obtain⟨t,rfl⟩:=rx
  cases y with
  | non=>cases ry;exact PySem.EqNone.eq_int_none (Gs I q (by simp))
  | int j=>obtain⟨t',rfl⟩:=ry;exact eq_int (Gs I q zhx)
  | str j=>obtain⟨t',rfl⟩:=ry;exact PySem.EqMixed.eq_int_str (Gs I q (by simp))
  | _=>exact absurd (show false=true from hs) Zx
 | str i=>
  obtain⟨t,rfl⟩:=rx
  cases y with
  | non=>cases ry;exact PySem.EqNone.eq_str_none (Gs I q (by simp))
  | bl j=>cases ry;exact PySem.EqMixed.eq_str_bool (Gs I q (by simp))
  | int j=>obtain⟨t',rfl⟩:=ry;exact PySem.EqMixed.eq_str_int (Gs I q (by simp))
  | str j=>obtain⟨t',rfl⟩:=ry;exact eq_str (Gs I q zrz)
  | _=>exact absurd (show false=true from hs) Zx
 | byt i=>
  obtain⟨t,rfl⟩:=rx
  cases y with
  | byt j=>obtain⟨t',rfl⟩:=ry;exact PySem.W.eq_bytes (Gs I q zsa)
  | _=>exact absurd (show false=true from hs) Zx
 | _=>cases y <;> exact absurd (show false=true from hs) Zx
theorem op_ne:OpR X (compareOp .NotEq) rNe:=by
 intro pins s σ H x y v u Q I rx ry h;obtain⟨hs,q⟩:=h
 cases x with
 | non=>
  cases rx;cases y with
  | non=>cases ry;exact PySem.EqNone.ne_none_none (Gs I q (by simp))
  | bl j=>cases ry;exact PySem.EqNone.ne_none_bool (Gs I q (by simp))
  | int j=>obtain⟨t',rfl⟩:=ry;exact PySem.EqNone.ne_none_int (Gs I q (by simp))
  | str j=>obtain⟨t',rfl⟩:=ry;exact PySem.EqNone.ne_none_str (Gs I q (by simp))
  | _=>exact absurd (show false=true from hs) Zx
 | bl i=>
  cases rx;cases y with
  | non=>cases ry;exact PySem.EqNone.ne_bool_none (Gs I q (by simp))
  | bl j=>cases ry;exact ne_bool (Gs I q (congrArg not znh))
  | str j=>obtain⟨t',rfl⟩:=ry;exact PySem.EqMixed.ne_bool_str (Gs I q (by simp))
  | _=>exact absurd (show false=true from hs) Zx
 | int i=>
  obtain⟨t,rfl⟩:=rx
  cases y with
  | non=>cases ry;exact PySem.EqNone.ne_int_none (Gs I q (by simp))
  | int j=>obtain⟨t',rfl⟩:=ry;exact ne_int (Gs I q (congrArg not zhx))
  | str j=>obtain⟨t',rfl⟩:=ry;exact PySem.EqMixed.ne_int_str (Gs I q (by simp))
  | _=>exact absurd (show false=true from hs) Zx
 | str i=>
  obtain⟨t,rfl⟩:=rx
  cases y with
  | non=>cases ry;exact PySem.EqNone.ne_str_none (Gs I q (by simp))
  | bl j=>cases ry;exact PySem.EqMixed.ne_str_bool (Gs I q (by simp))
  | int j=>obtain⟨t',rfl⟩:=ry;exact PySem.EqMixed.ne_str_int (Gs I q (by simp))
  | str j=>obtain⟨t',rfl⟩:=ry;exact ne_str (Gs I q (congrArg not zrz))
  | _=>exact absurd (show false=true from hs) Zx
 | byt i=>
  obtain⟨t,rfl⟩:=rx
  cases y with
  | byt j=>obtain⟨t',rfl⟩:=ry;exact PySem.W.ne_bytes (Gs I q (congrArg not zsa))
  | _=>exact absurd (show false=true from hs) Zx
 | _=>cases y <;> exact absurd (show false=true from hs) Zx
theorem op_lt:OpR X (compareOp .Lt) (rI0 fun i j=>.bl (decide (i<j))):=opB0 fun _ _ _ _ _ _ _ q=>lt_int q
theorem op_le:OpR X (compareOp .LtE) (rI0 fun i j=>.bl (decide (i<=j))):=opB0 fun _ _ _ _ _ _ _ q=>le_int q
theorem op_gt:OpR X (compareOp .Gt) (rI0 fun i j=>.bl (decide (j<i))):=opB0 fun _ _ _ _ _ _ _ q=>gt_int q
theorem op_ge:OpR X (compareOp .GtE) (rI0 fun i j=>.bl (decide (j<=i))):=opB0 fun _ _ _ _ _ _ _ q=>ge_int q
theorem op_isN:OpR X (compareOp .Is) (fun x y H Q=>y=.non/\Q (.bl (decide (x=.non))) H):=by
 intro pins s σ H x y v u Q I rx ry h;obtain⟨rfl,q⟩:=h
 cases ry;refine is_none_gen (Gs I q ?_);cases x <;> first
  | (cases rx;rfl)
  | (obtain⟨t,rfl⟩:=rx;rfl)
theorem ybh:OpR X (compareOp .IsNot) (fun x y H Q=>y=.non/\Q (.bl (!decide (x=.non))) H):=by
 intro pins s σ H x y v u Q I rx ry h;obtain⟨rfl,q⟩:=h
 cases ry;refine isnot_none_gen (Gs I q ?_);cases x <;> first
  | (cases rx;rfl)
  | (obtain⟨t,rfl⟩:=rx;rfl)
theorem ybc {op:CmpOp} {r:R2} (ho:OpR X (compareOp op) r) (ha:PE X a ta) (hb:PE X b tb) (hm:behindInMarks op b=false):PE X (.Compare a [op] [b] pos) (tOp r ta tb):=by
 intro pins s σ H Q I h;exact wpAny_Compare1 (binT ha hb I h fun v u s2 x y H2 I2 rx ry q=>ho pins s2 σ H2 x y v u Q I2 rx ry q) hm
def tTest (t:TE):TT:=fun σ H Q=>t σ H fun x H'=>∃ k,x=.bl k/\Q k H'
theorem yav {op:CmpOp} {r:R2} (ho:OpR X (compareOp op) r) (ha:PE X a ta) (hb:PE X b tb) (hm:behindInMarks op b=false):PT X (.Compare a [op] [b] pos) (tTest (tOp r ta tb)):=by
 intro pins s σ H Q I h;refine wpAny_isTrue_Compare1 (thn (ha pins s σ H _ I h) fun v s1 ⟨x,H1,I1,r1,q1⟩=>thn (hb pins s1 σ H1 _ I1 q1) fun u s2 ⟨y,H2,I2,r2,q2⟩=>
  thn (ho pins s2 σ H2 x y v u _ I2 r1 r2 q2) fun c s3 ⟨z,H3,I3,r3,k,e,q3⟩=>?_) hm
 subst e;cases r3;exact Qo ⟨H3,I3,q3⟩
theorem zmt:(sizeLine:Nat)<2^63:=by rw [sizeLine_eq];decide
theorem zfz {x:V} {us:List Value} (r:Vals [x] us):∃ u,us=[u]/\RelV x u:=by
 cases r with
 | cons r1 r2=>cases r2;exact⟨_,rfl,r1⟩
theorem zzi {x y:V} {us:List Value} (r:Vals [x,y] us):∃ u w',us=[u,w']/\RelV x u/\RelV y w':=by
 cases r with
 | cons r1 r2=>
  cases r2 with
  | cons r3 r4=>cases r4;exact⟨_,_,rfl,r1,r3⟩
theorem zwn:zde X (.builtin "abs") (fun xs H Q=>∃ i,xs=[.int i]/\Q (.int (if i<0 then -i else i)) H):=by
 intro pins s σ H xs us Q I r h;obtain⟨i,rfl,q⟩:=h
 obtain⟨u,rfl,t,rfl⟩:=zfz r
 exact call_abs_int fun u tk=>⟨.int (if i<0 then -i else i),H,I.tok _,⟨_,rfl⟩,q⟩
theorem zsl (hc:X.calm=true):zde X (.builtin "max") (fun xs H Q=>∃ i j,xs=[.int i,.int j]/\Q (.int (if j > i then j else i)) H):=by
 intro pins s σ H xs us Q I r h;obtain⟨i,j,rfl,q⟩:=h
 obtain⟨u,w',rfl,⟨t,rfl⟩,⟨t',rfl⟩⟩:=zzi r
 refine max_two_ints (I.ok.hd hc) fun h' tk k=>⟨_,H,I.kept k,?_,q⟩
 by_cases hj:j > i
 ·rw [if_pos hj,if_pos hj];exact⟨_,rfl⟩
 ·rw [if_neg hj,if_neg hj];exact⟨_,rfl⟩
theorem zsj (hc:X.calm=true):zde X (.builtin "min") (fun xs H Q=>∃ i j,xs=[.int i,.int j]/\Q (.int (if j<i then j else i)) H):=by
 intro pins s σ H xs us Q I r h;obtain⟨i,j,rfl,q⟩:=h
 obtain⟨u,w',rfl,⟨t,rfl⟩,⟨t',rfl⟩⟩:=zzi r
 refine min_two_ints (I.ok.hd hc) fun h' tk k=>⟨_,H,I.kept k,?_,q⟩
 by_cases hj:j<i
 ·rw [if_pos hj,if_pos hj];exact⟨_,rfl⟩
 ·rw [if_neg hj,if_neg hj];exact⟨_,rfl⟩
end
end L2
namespace L2
open PySem PySem.Spec PyProof.Rows
section
variable {prog:Program} {w:World} {A:Around} {E:Value->Shared->Prop} {s:Shared} {K:PySem.W.Frag} {x dx C f:Addr} {mA:Str->Option Value} {name:Str} {v:Value}
end
section
variable {P:Program} {w:World} {H H':Hp} {h h':Heap} {a C dx:Addr} {fs fs':List (Str×V)}
end
section
variable {X:Cx} {pins:List (Addr×Obj)} {σ:St} {H:Hp} {s:Shared} {a C dx:Addr} {fs:List (Str×V)} {f:Str} {v:V} {A:Around} {E:Value->Shared->Prop}
end
section
variable {X:Cx} {o e value:Expr} {f:Str} {pos pos' tpos:Pos} {ta tv:TE}
end
section
variable {X:Cx} {pins:List (Addr×Obj)} {σ:St} {H:Hp} {s:Shared} {A:Around} {E:Value->Shared->Prop} {Q:Value->Shared->Prop} {c:Value} {b:Bool}
end
end L2
namespace L2
open PySem PySem.Spec PyProof.Rows
structure Room (k:Nat) (A:Around):Prop where
 hd:A.handled=none
 dp:A.depth+3*k+5<recursionLimit
 un:A.units+16*k+200<cLine
theorem Room.mono {j k:Nat} {A:Around} (r:Room k A) (h:j<=k):Room j A:=⟨r.hd,by have:=r.dp;omega,by have:=r.un;omega⟩
theorem Room.deeper {k:Nat} {A:Around} (r:Room (k+1) A) (env:Env):Room k (A.deeper env):=
 ⟨r.hd,by have:=r.dp;show A.depth+1+3*k+5<_;omega,by have:=r.un;show A.units+3+16*k+200<_;omega⟩
theorem Room.depth {k:Nat} {A:Around} (r:Room k A):A.depth<recursionLimit:=by have:=r.dp;omega
theorem Room.units {k:Nat} {A:Around} (r:Room k A):A.units+64<cLine:=by have:=r.un;omega
def tNil:TA:=fun _ H Q=>Q [] H
def tCons (ta:TE) (tr:TA):TA:=fun σ H Q=>ta σ H fun x H1=>tr σ H1 fun xs H2=>Q (x::xs) H2
section
variable {X:Cx} {e:Expr} {es:List Expr} {te:TE} {t:TA} {pos:Pos}
theorem zqo:PA X [] tNil:=fun _ _ _ _ H Q I h=>Vm ⟨[],H,I,.nil,h⟩
theorem zhj (ha:PE X e te) (hr:PA X es t) (hs:starEach (e::es) X.env=(false,eval e X.env)::starEach es X.env:=by rfl):PA X (e::es) (tCons te t):=by
 intro pos pins s σ H Q I h;rw [hs];show wpAny _ _ (spliced ((false,eval e X.env)::backTo pos (starEach es X.env))) _ _ s;refine Vd (thn (ha pins s σ H _ I h) fun u s1 ⟨x,H1,I1,r1,q1⟩=>?_);exact thn (hr pos pins s1 σ H1 _ I1 q1) fun us s2 ⟨xs,H2,I2,r2,q2⟩=>⟨x::xs,H2,I2,.cons r1 r2,q2⟩
def tTup (t:TA):TE:=fun σ H Q=>t σ H fun xs H1=>xs.length<=sizeLine/\∀ p,H1 p=none->Q (.ref p) (upd H1 p (.tup xs))
def tLst (t:TA):TE:=fun σ H Q=>t σ H fun xs H1=>xs.length<=sizeLine/\∀ p,H1 p=none->Q (.ref p) (upd H1 p (.lst xs))
theorem pe_tup {x1} (h:PA X es t):PE X (.Tuple es x1 pos) (tTup t):=by
 intro pins s σ H Q I hq;refine wpAny_Tuple_spliced (thn (h pos pins s σ H _ I hq) fun us s1 ⟨xs,H1,I1,r,z,q⟩=>⟨by rw [<- r.length];exact z,?_⟩);have hf:H1 s1.heap.objs.size=none:=I1.hok.fresh (Zj _);refine⟨.ref s1.heap.objs.size,upd H1 s1.heap.objs.size (.tup xs),I1.laid (t':=s1.toks) (fun b u e=>Zp _ e) (Zj _) ?_,rfl,q _ hf⟩
 exact⟨z,us,r,⟨_,Yf _ rfl,rfl,_,rfl⟩⟩
theorem pe_lst (h:PA X es t):PE X (.List es pos) (tLst t):=by
 intro pins s σ H Q I hq;refine wpAny_List_spliced (thn (h pos pins s σ H _ I hq) fun us s1 ⟨xs,H1,I1,r,z,q⟩=>⟨by rw [<- r.length];exact z,?_⟩);have hf:H1 s1.heap.objs.size=none:=I1.hok.fresh (Zj _);refine⟨.ref s1.heap.objs.size,upd H1 s1.heap.objs.size (.lst xs),I1.laid (t':=s1.toks) (fun b u e=>Zp _ e) (Zj _) ?_,rfl,q _ hf⟩
 exact⟨z,us,0,r,Yf _ rfl⟩
end
abbrev Sp:=List V->Hp->VK->XK->Prop
abbrev CXT:=List Env->Hp->Shared->XK->Value->Shared->Prop
structure Env0 (P:Program) (w:World) (K:PySem.W.Frag) (mg:Str->Option Value) (base:Heap) (A:Around) (outer:List Env) (s:Shared) (H:Hp):Prop where
 frames:A.frames=some outer
 mod:Mod K mg base
 bs:∀ b o,base.get? b=some o->s.heap.get? b=some o/\H b=none
 bsz:base.objs.size<=s.heap.objs.size
 funs:s.heap.FunFrames base outer
 frf:∀ b∈frs outer,H b=none
 hok:HOk P w H s.heap
 bare:AllBare s.gens
def CE (outer:List Env) (P:Program) (w:World) (H:Hp) (s:Shared) (Q:VK) (u:Value) (s':Shared):Prop:=
 ∃ v H',s'.os=s.os/\AllBare s'.gens/\Un (frs outer) [] H H' s.heap s'.heap/\HOk P w H' s'.heap/\RelV v u/\Q v H'
def CR (CX:CXT) (outer:List Env) (P:Program) (w:World) (H:Hp) (s:Shared) (Q:VK) (E:XK) (r:Result) (s':Shared):Prop:=
 match r with
 | .ok (.ret u)=>CE outer P w H s Q u s'
 | .ok _=>False
 | .error e=>CX outer H s E e s'
structure FnOk (P:Program) (w:World) (K:PySem.W.Frag) (mg:Str->Option Value) (base:Heap) (CX:CXT) (k:Nat) (f:Addr) (fd:FuncData) (ps:List Str) (sp:Sp):Prop where
 len:∀ vs H Q E,sp vs H Q E->vs.length=ps.length
 run:∀ (A:Around) (outer:List Env) (s:Shared) (H:Hp) (args:Args) (us:List Value) (vs:List V) (Q:VK) (E:XK),Room k A->Env0 P w K mg base A outer s H->BindsTo s fd args (ps.zip us)->Vals vs us->sp vs H Q E ->
  codeAny (model P w) A (.call (.ref f) args) (CR CX outer P w H s Q E) s
theorem FnOk.mono {P:Program} {w:World} {K:PySem.W.Frag} {mg:Str->Option Value} {base:Heap} {CX:CXT} {j k:Nat} {f:Addr} {fd:FuncData} {ps:List Str} {sp:Sp} (F:FnOk P w K mg base CX j f fd ps sp) (h:j<=k) :
  FnOk P w K mg base CX k f fd ps sp:=⟨F.len,fun A outer s H args us vs Q E hr=>F.run A outer s H args us vs Q E (hr.mono h)⟩
theorem FnOk.imp {P:Program} {w:World} {K:PySem.W.Frag} {mg:Str->Option Value} {base:Heap} {CX:CXT} {k:Nat} {f:Addr} {fd:FuncData} {ps:List Str} {sp sp':Sp} (F:FnOk P w K mg base CX k f fd ps sp)
  (h:∀ vs H Q E,sp' vs H Q E->sp vs H Q E):FnOk P w K mg base CX k f fd ps sp':=
 ⟨fun vs H Q E q=>F.len vs H Q E (h _ _ _ _ q),fun A outer s H args us vs Q E hr he hb hv hs=>F.run A outer s H args us vs Q E hr he hb hv (h _ _ _ _ hs)⟩
section
variable {X:Cx} {pins:List (Addr×Obj)} {σ:St} {H:Hp} {s s':Shared}
theorem Inv.env0 (I:Inv X pins σ H s):Env0 X.prog X.w X.K X.mg X.base X.A X.stack s H:=
 ⟨I.ok.frames,I.ok.mod,I.bs,Ya I.ok.bsz I.sz,I.stack,I.stkFree,I.hok,I.bare⟩
theorem Inv.after {Q:VK} {u:Value} (I:Inv X pins σ H s) (h:CE X.stack X.prog X.w H s Q u s'):EP X pins σ Q u s':=by
 obtain⟨v,H',os,bare,un,hok,r,q⟩:=h
 obtain⟨hh,g,d,t,os'⟩:=s'
 obtain rfl:os'=s.os:=os;exact⟨v,H',I.call (h':=hh) (g':=g) (d':=d) (t':=t) (ch:=[]) un hok bare (fun b z=>absurd z (by simp)),r,q⟩
end
def tCall (sp:Sp) (dvs:List V) (E:XK) (t:TA):TE:=fun σ H Q=>t σ H fun vs H1=>sp (vs++dvs) H1 Q E
def Binds (K:PySem.W.Frag) (fd:FuncData) (ps:List Str) (ds:List Value):Prop:=
 ∀ (s:Shared) (us:List Value),K.In s.heap->(us++ds).length=ps.length->BindsTo s fd ⟨us,[]⟩ (ps.zip (us++ds))
theorem Binds.all {K:PySem.W.Frag} {fd:FuncData} {ps:List Str} (h:∀ us:List Value,us.length=ps.length->bindArgs fd ⟨us,[]⟩=pure (ps.zip us)):Binds K fd ps []:=fun s us _ hl=>by
 rw [Qv] at hl |-;exact .of_eq (h us hl)
def ztk (CX:CXT) (X:Cx) (E:XK):Prop:=∀ (pins:List (Addr×Obj)) (σ:St) (H:Hp) (s:Shared) (e:Value) (s':Shared),Inv X pins σ H s->CX X.stack H s E e s'->X.xe e s'
section
variable {X:Cx} {CX:CXT} {k:Nat} {f C:Addr} {fd:FuncData} {ps:List Str} {sp:Sp} {dvs:List V} {ds:List Value} {E:XK} {x m:Str} {p pos apos:Pos} {e o:Expr} {es:List Expr} {ta:TE} {t:TA}
theorem run_fn {pins:List (Addr×Obj)} {σ:St} {H:Hp} {s:Shared} {Q:VK} {us:List Value} {vs:List V} (F:FnOk X.prog X.w X.K X.mg X.base CX k f fd ps sp) (hr:Room k X.A) (hb:Binds X.K fd ps ds) (hd:Vals dvs ds) (hx:ztk CX X E)
  (I:Inv X pins σ H s) (r:Vals vs us) (h:sp (vs++dvs) H Q E):wpAny (model X.prog X.w) X.A (call (.ref f) us) (EP X pins σ Q) X.xe s:=by
 have r2:Vals (vs++dvs) (us++ds):=r.append hd;have hl:(us++ds).length=ps.length:=by rw [<- r2.length];exact F.len _ _ _ _ h
 refine wpAny_call (Vz (F.run X.A X.stack s H ⟨us,[]⟩ (us++ds) (vs++dvs) Q E hr I.env0 (hb s us I.kIn hl) r2 h) fun r s' hq=>?_);cases r with
 | error e=>exact hx pins σ H s e s' I hq
 | ok fl=>
  cases fl with
  | ret u=>exact I.after hq
  | next=>exact False.elim hq
  | brk=>exact False.elim hq
  | cont=>exact False.elim hq
theorem ybd (F:FnOk X.prog X.w X.K X.mg X.base CX k f fd ps sp) (hr:Room k X.A) (hg:Gl X x) (hm:X.mg x=some (.ref f)) (hk:PySem.W.keepIn X.K (.ref f)=true) (hb:Binds X.K fd ps ds) (hd:Vals dvs ds) (hx:ztk CX X E)
  (ha:PA X (e::es) t) (hdb:(x == ("__debug__" : Str))=false:=by decide) (he:starEach (e::es) X.env=(false,eval e X.env)::starEach es X.env:=by rfl) (hpl:(backTo pos (starEach es X.env)).any (·.1)=false:=by rfl) :
  PE X (.Call (.Name x p) (e::es) [] pos) (tCall sp dvs E t):=by
 intro pins s σ H Q I h;refine Q2 (ycb I hg hm ?_ hdb);refine PySem.W.callWith_K (h₀:=X.base) I.ok.mod.kin hk (thn (ha pos pins s σ H _ I h) fun us s1 ⟨vs,H1,I1,r,q⟩=>⟨I1.kIn,?_⟩) he hpl;exact run_fn F hr hb hd hx I1 r q
end
section
variable {X:Cx} {CX:CXT} {k:Nat} {f C:Addr} {fd:FuncData} {ps ks:List Str} {sp:Sp} {E:XK} {x m:Str} {p pos apos kpos:Pos} {e o:Expr} {es:List Expr} {kws:List Keyword} {te ta:TE} {t tk:TA} {nm:Option Str}
variable {g:List Value->List Value->List Value} {gV:List V->List V->List V}
end
structure FnScope (N P:List Str) (sc:Scope):Prop where
 kind:sc.kind=.function
 co:sc.isCoroutine=false
 gen:sc.isGenerator=false
 nd:N.Nodup
 pre:N.take P.length=P
 par:∀ x∈P,sc.names.lookup x=some .local\/sc.names.lookup x=some .cell
 nofree:∀ y∈sc.names,y.2 ≠ .free
theorem zjy {kindOf:Str->Option NameKind} {x:Str}:∀ {binds:List (Str×Value)} {m:Str->Option Value},(∀ v,(x,v)∉binds)->bindL kindOf binds m x=m x
 | [],_,_=>rfl
 | (n,v)::r,m,h=>by
  unfold bindL;rw [zjy fun w hw=>h w (Yp _ hw)];split
  ·have:x≠n:=by rintro rfl;exact h v Wi
   simp [this]
  ·rfl
theorem zka {kindOf:Str->Option NameKind} {x:Str}:∀ {binds:List (Str×Value)} {m:Str->Option Value},(∀ v,(x,v)∉binds)->bindC kindOf binds m x=m x
 | [],_,_=>rfl
 | (n,v)::r,m,h=>by
  unfold bindC;rw [zka fun w hw=>h w (Yp _ hw)];split
  ·rfl
  ·have:x≠n:=by rintro rfl;exact h v Wi
   simp [this]
theorem zjz {kindOf:Str->Option NameKind} {x:Str} {v:Value}:∀ {P:List Str} {vs:List Value} {i:Nat} {m:Str->Option Value},P.Nodup->P[i]? = some x->vs[i]? = some v->kindOf x=some .local ->
  bindL kindOf (P.zip vs) m x=some v
 | [],_,_,_,_,h,_,_=>by simp at h
 | _::_,[],_,_,_,_,h,_=>by simp at h
 | p::P,w::vs,0,m,nd,h1,h2,hk=>by
  simp at h1 h2;subst h1;subst h2
  show bindL kindOf ((p,w)::P.zip vs) m p=_;unfold bindL;rw [zjy fun v hv=>(Wn.mp nd).1 (J2 hv).1,if_pos hk];simp
 | p::P,w::vs,i+1,m,nd,h1,h2,hk=>by
  show bindL kindOf ((p,w)::P.zip vs) m x=_;unfold bindL;exact zjz (i:=i) (Wn.mp nd).2 (by simpa using h1) (by simpa using h2) hk
theorem zkb {kindOf:Str->Option NameKind} {x:Str} {v:Value}:∀ {P:List Str} {vs:List Value} {i:Nat} {m:Str->Option Value},P.Nodup->P[i]? = some x->vs[i]? = some v->kindOf x≠some .local ->
  bindC kindOf (P.zip vs) m x=some v
 | [],_,_,_,_,h,_,_=>by simp at h
 | _::_,[],_,_,_,_,h,_=>by simp at h
 | p::P,w::vs,0,m,nd,h1,h2,hk=>by
  simp at h1 h2;subst h1;subst h2
  show bindC kindOf ((p,w)::P.zip vs) m p=_;unfold bindC;rw [zka fun v hv=>(Wn.mp nd).1 (J2 hv).1,if_neg hk];simp
 | p::P,w::vs,i+1,m,nd,h1,h2,hk=>by
  show bindC kindOf ((p,w)::P.zip vs) m x=_;unfold bindC;exact zkb (i:=i) (Wn.mp nd).2 (by simpa using h1) (by simpa using h2) hk
def start (N:List Str) (vs:List V):St:=vs.map some++List.replicate (N.length-vs.length) none
def cxOf (CX:CXT) (P:Program) (w:World) (K:PySem.W.Frag) (mg:Str->Option Value) (base:Heap) (N:List Str) (qual:Str) (scope:Scope) (f:Addr) (cd:Value) (A:Around) (outer:List Env) (s:Shared) (H:Hp) (E:XK):Cx where
 prog:=P
 w:=w
 K:=K
 mg:=mg
 base:=base
 A:=A.deeper (envOfC qual scope s.heap.objs.size f cd)
 N:=N
 s₀:=s
 H₀:=H
 env:=envOfC qual scope s.heap.objs.size f cd
 outer:=outer
 stack:=envOfC qual scope s.heap.objs.size f cd::outer
 ex:=[]
 calm:=true
 fn:=fun _=>true
 pn:=[]
 xe:=fun e s'=>wpAny (model P w) (A.deeper (envOfC qual scope s.heap.objs.size f cd)) (leaving (envOfC qual scope s.heap.objs.size f cd) e) (fun _ s''=>CX outer H s E e s'') (fun e' s''=>CX outer H s E e' s'') s'
theorem znk {sc:Scope} {n:Nat} {x:Str} (h:sc.names.lookup x=some .cell):∃ c,(cellsFrom n sc.names []).lookup x=some c:=by
 have q:=Um sc.names n [] (.inl h);exact Uf.mp q
theorem zrk {CX:CXT} {P:Program} {w:World} {K:PySem.W.Frag} {mg:Str->Option Value} {base:Heap} {N ps:List Str} {qual:Str} {scope:Scope} {f:Addr} {cd:Value} {A:Around} {outer:List Env} {s s1:Shared} {H:Hp} {E:XK} {us:List Value} {vs:List V}
  (S:FnScope N ps scope) (hd:A.handled=none) (e0:Env0 P w K mg base A outer s H) (hl:vs.length=ps.length) (r:Vals vs us)
  (x:InCallC s s.heap.objs.size (bindL (envOfC qual scope s.heap.objs.size f cd).kindOf (ps.zip us) fun _=>none) (cellsFrom (s.heap.objs.size+1) scope.names []) (bindC (envOfC qual scope s.heap.objs.size f cd).kindOf (ps.zip us) fun _=>none) s1) :
  Inv (cxOf CX P w K mg base N qual scope f cd A outer s H E) [] (start N vs) H s1:=by
 have hpl:ps.length<=N.length:=by have:=congrArg List.length S.pre;rw [Ww] at this;omega
 obtain⟨h1,tk,rfl,hk⟩:=x.done
 have noA:∀ b:Addr,b∉(cxOf CX P w K mg base N qual scope f cd A outer s H E).ex:=fun b z=>absurd (show b∈([]:List Addr) from z) (by simp)
 refine⟨⟨e0.mod,S.kind,rfl,rfl,Zj _,fun y z c h1 h2=>?_,fun y hy=>?_,fun y c _ h=>?_,fun _=>hd,Around.frames_deeper e0.frames,.inr ⟨rfl,rfl⟩,fun b z=>absurd z (noA b),e0.bs,e0.bsz,fun b _ _=>noA b,fun b z=>absurd z (noA b),e0.funs,e0.frf⟩,
  rfl,e0.bare,Un.kept hk,⟨_,x.toInCall.ns,fun i y v h1 h2 h3=>?_⟩,fun y c h=>⟨_,x.cell y c h⟩,e0.hok.fresh (Zj _),fun y c h=>?_,fun p hp=>absurd (show p∈([]:List (Addr×Obj)) from hp) (by simp),e0.hok.kept hk,?_⟩
 ·exact name_of_addr x.apart (Qp h1) (Qp h2)
 ·have hy:scope.names.lookup y=some .cell\/scope.names.lookup y=some .free:=hy;rcases hy with hy | hy
  ·exact znk hy
  ·exact absurd rfl (S.nofree _ (Qp hy))
 ·exact Ja (x.above y c (Qp h))
 ·have hi:i<vs.length:=by
   unfold start at h2;by_cases hi:i<vs.length
   ·exact hi
   ·rw [Z0 (by simpa using hi)] at h2;rw [W6] at h2;split at h2 <;> cases h2
  have ha:vs[i]? = some v:=by
   unfold start at h2;rw [Z9 (by simpa using hi),Zi] at h2;cases e:vs[i]? with
   | none=>rw [e] at h2;cases h2
   | some a=>rw [e] at h2;cases h2;rfl
  obtain⟨u,hu,rv⟩:=r.get ha
  have hp:ps[i]? = some y:=by
   rw [<- S.pre,Kw (by omega)];exact h1
  have ndP:ps.Nodup:=by rw [<- S.pre];exact S.nd.sublist (List.take_sublist _ _)
  refine⟨u,rv,?_⟩
  rcases S.par y (Yh hp) with k | k
  ·exact .inl ⟨k,zjz ndP hp hu k⟩
  ·obtain⟨c,e⟩:=znk (n:=s.heap.objs.size+1) k
   refine .inr ⟨.inl k,c,e,?_⟩;have q:=x.cell y c e;rw [zkb ndP hp hu (by show scope.names.lookup y≠_;rw [k];decide)] at q;exact q
 ·exact e0.hok.fresh (Ja (x.above y c (Qp h)))
 ·unfold start;show _=N.length;rw [Zw,Zc,Yq];omega
theorem fn_of {CX:CXT} {P:Program} {w:World} {K:PySem.W.Frag} {mg:Str->Option Value} {base:Heap} {k:Nat} {f:Addr} {name qual:Str} {params:Arguments} {body:List Stmt} {scope:Scope} {dV kV doc pm cdv ct oc:Value} {an od:Option Addr}
  {osl:Array (Option Value)} {N ps:List Str} {sp:Sp} (lk:K.lookup f=some ⟨oc,od,.func (PySem.W.fnOf name qual params body scope dV kV doc pm an cdv ct),osl⟩) (hcd:PySem.W.codeIn K cdv qual=true) (S:FnScope N ps scope)
  (len:∀ vs H Q E,sp vs H Q E->vs.length=ps.length)
  (hbody:∀ (A:Around) (outer:List Env) (s:Shared) (H:Hp) (vs:List V) (Q:VK) (E:XK),Room k (A.deeper (envOfC qual scope s.heap.objs.size f cdv))->sp vs H Q E ->
   ∃ t,PSs (cxOf CX P w K mg base N qual scope f cdv A outer s H E) body t/\t {nx:=fun _ H'=>Q .non H',rt:=Q} (start N vs) H) :
  FnOk P w K mg base CX (k+1) f (PySem.W.fnOf name qual params body scope dV kV doc pm an cdv ct) ps sp:=by
 refine⟨len,fun A outer s H args us vs Q E hr e0 hb r hsp=>?_⟩
 have hl:=len _ _ _ _ hsp;have KX:K.In s.heap:=e0.mod.kin.keeps fun b o e=>(e0.bs b o e).1
 have lim:s.heap.NoLimit:=e0.mod.nolimit.keeps fun b o e=>(e0.bs b o e).1
 have hkind:∀ y∈ps.zip us,scope.names.lookup y.1=some .local\/(scope.names.lookup y.1=some .cell/\((cellsFrom (s.heap.objs.size+1) scope.names []).lookup y.1).isSome=true):=fun⟨n,v⟩ hy=>by
  rcases S.par n (J2 hy).1 with q | q
  ·exact .inl q
  ·exact .inr ⟨q,Um _ _ _ (.inl q)⟩
 refine codeAny_call_function hr.depth (KX _ _ lk) rfl S.co S.gen rfl (PySem.W.codeRec_of KX hcd) (hb _ _ _ _ ?_);refine wpAny_newFunctionEnv_cells S.kind hkind fun env he s1 x=>?_;subst he;refine⟨lim.keeps x.toInCall.keep,codeAny_func ?_⟩
 obtain⟨t,ht,hq⟩:=hbody A outer s H vs Q E (hr.deeper _) hsp
 have I:Inv (cxOf CX P w K mg base N qual scope f cdv A outer s H E) [] (start N vs) H s1:=zrk S hr.hd e0 hl r x;refine Ud (ht [] s1 (start N vs) H _ I hq) (fun fl s' hs=>?_) fun e s' hs=>hs
 have fin:∀ {σ':St} {H':Hp} {v:V} {u:Value},Inv (cxOf CX P w K mg base N qual scope f cdv A outer s H E) [] σ' H' s'->RelV v u->Q v H'->CE outer P w H s Q u s':=
  fun {σ' H' v u} J rv q=>⟨v,H',J.os,J.bare,J.base,J.hok,rv,q⟩
 cases fl with
 | ret u=>
  obtain⟨v,σ',H',J,rv,q⟩:=hs
  exact fin J rv q
 | next=>
  obtain⟨σ',H',J,q⟩:=hs
  exact fin (v:=V.non) (u:=Value.none) J rfl q
 | brk=>
  obtain⟨_,_,_,q⟩:=hs
  exact False.elim q
 | cont=>
  obtain⟨_,_,_,q⟩:=hs
  exact False.elim q
end L2
namespace L2
open PySem PySem.Spec PyProof.Rows
section
variable {X:Cx} {x:Str} {p pos:Pos} {e:Expr} {es:List Expr} {t:TA} {id T:String} {r:List V->Hp->VK->Prop}
def tCB (r:List V->Hp->VK->Prop) (t:TA):TE:=fun σ H Q=>t σ H fun vs H1=>r vs H1 Q
theorem zmk (hc:zde X (.builtin id) r) (hg:Gl X x) (hm:X.mg x=none) (hv:bootBuiltins x=some (.builtin id)) (ha:PA X (e::es) t) (hn:x ≠ "__name__" := by decide) (hdb:(x == ("__debug__" : Str))=false:=by decide)
  (he:starEach (e::es) X.env=(false,eval e X.env)::starEach es X.env:=by rfl) (hpl:(backTo pos (starEach es X.env)).any (·.1)=false:=by rfl):PE X (.Call (.Name x p) (e::es) [] pos) (tCB r t):=by
 intro pins s σ H Q I h;refine Q2 (zcl I hg hm hv ?_ hn hdb);exact PyProof.Rows.callWith_builtin1 (thn (ha pos pins s σ H _ I h) fun us s1 ⟨vs,H1,I1,r1,q1⟩=>hc pins s1 σ H1 vs us Q I1 r1 q1) he hpl
theorem zqn (hc:zde X (.type T) r) (hg:Gl X x) (hm:X.mg x=none) (hv:bootBuiltins x=some (.type T)) (ha:PA X (e::es) t) (hn:x ≠ "__name__" := by decide) (hdb:(x == ("__debug__" : Str))=false:=by decide)
  (he:starEach (e::es) X.env=(false,eval e X.env)::starEach es X.env:=by rfl) (hpl:(backTo pos (starEach es X.env)).any (·.1)=false:=by rfl):PE X (.Call (.Name x p) (e::es) [] pos) (tCB r t):=by
 intro pins s σ H Q I h;refine Q2 (zcl I hg hm hv ?_ hn hdb);exact Yu (thn (ha pos pins s σ H _ I h) fun us s1 ⟨vs,H1,I1,r1,q1⟩=>hc pins s1 σ H1 vs us Q I1 r1 q1) he hpl
end
end L2
namespace HT
open PySem PyProof.Rows
section
open PySem.SeqAt
open PySem.AutoSeq1 (wpAny_loadPart')
open PySem.MeetsSeq PySem.MeetsSeq2 PySem.MeetsSeq3
end
section
variable {prog:Program} {w:World} {A:Around} {E:Value->Shared->Prop} {s:Shared}
def sIx (n d:Nat):Option Int->Nat
 | none=>d
 | some v=>if v<0 then (v+(n:Int)).toNat else min v.toNat n
theorem sIx_none (n d:Nat):sIx n d none=d:=rfl
theorem sIx_nat (n d k:Nat):sIx n d (some (k:Int))=min k n:=by
 show (if (k:Int)<0 then ((k:Int)+(n:Int)).toNat else min (k:Int).toNat n)=min k n;rw [if_neg (by omega),Wm]
end
end HT
namespace L2
open PySem PySem.Spec PyProof.Rows
abbrev TO:=St->Hp->(Option Int->Hp->Prop)->Prop
def PO (X:Cx) (e:Option Expr) (t:TO):Prop:=
 ∀ (pins:List (Addr×Obj)) (s:Shared) (σ:St) (H:Hp) (Q:Option Int->Hp->Prop),Inv X pins σ H s->t σ H Q ->
  wpAny (model X.prog X.w) X.A (evalPart e X.env) (fun u s'=>∃ o H',Inv X pins σ H' s'/\IsPart u o/\Q o H') X.xe s
def zzs:TO:=fun _ H Q=>Q none H
def tPart (t:TE):TO:=fun σ H Q=>t σ H fun x H1=>∃ i,x=.int i/\Q (some i) H1
section
variable {X:Cx} {e:Expr} {te:TE} {lo hi:Option Expr} {tl th:TO} {pos p2:Pos}
theorem yaz:PO X none zzs:=by
 intro pins s σ H Q I h;rw [evalPart_none];exact Zy ⟨none,H,I,.none,h⟩
theorem yay (h:PE X e te):PO X (some e) (tPart te):=by
 intro pins s σ H Q I hw;rw [evalPart_some];refine thn (h pins s σ H _ I hw) fun u s1 ⟨x,H1,I1,r1,q1⟩=>?_;obtain⟨i,rfl,q⟩:=q1
 obtain⟨t,rfl⟩:=r1
 exact⟨some i,H1,I1,.int i t,q⟩
def SlR (X:Cx) (r:V->Option Int->Option Int->Hp->VK->Prop):Prop:=
 ∀ (pins:List (Addr×Obj)) (s:Shared) (σ:St) (H:Hp) (x:V) (v vl vu:Value) (lo hi:Option Int) (sl:Addr) (Q:VK),Inv X pins σ H s->RelV x v->s.heap.IsSliceOf sl vl vu .none->IsPart vl lo->IsPart vu hi->r x lo hi H Q ->
  ∃ T id,typeLookup (.type T) "__getitem__" = pure (some (.builtin id))/\s.TypeIs v T/\wpAny (model X.prog X.w) X.A (getItem v (.ref sl)) (EP X pins σ Q) X.xe s
def tSl (r:V->Option Int->Option Int->Hp->VK->Prop) (te:TE) (tl th:TO):TE:=fun σ H Q=>te σ H fun x H1=>tl σ H1 fun l H2=>th σ H2 fun u H3=>r x l u H3 Q
theorem zva {r:V->Option Int->Option Int->Hp->VK->Prop} (hr:SlR X r) (he:PE X e te) (hl:PO X lo tl) (hu:PO X hi th):PE X (.Subscript e (.Slice lo hi none p2) pos) (tSl r te tl th):=by
 intro pins s σ H Q I h;refine Subscript_ (thn (he pins s σ H _ I h) fun v s1 ⟨x,H1,I1,r1,q1⟩=>?_);refine wpAny_Slice (thn (hl pins s1 σ H1 _ I1 q1) fun vl s2 ⟨l,H2,I2,pl,q2⟩=>thn (hu pins s2 σ H2 _ I2 q2) fun vu s3 ⟨u,H3,I3,pu,q3⟩=>?_);rw [evalPart_none];refine Zy ?_;have I4:Inv X pins σ H3 {s3 with heap:=s3.heap.push {cls:=.type "slice", data:=.fields #[vl,vu,.none]} }:=I3.kept (t':=s3.toks) fun b ob q=>Zp _ q
 obtain⟨T,id,hT,ht,hg⟩:=hr pins {s3 with heap:=s3.heap.push {cls:=.type "slice", data:=.fields #[vl,vu,.none]} } σ H3 x v vl vu l u s3.heap.objs.size Q I4 r1 (Heap.IsSliceOf.new ..) pl pu q3
 show wpAny (model X.prog X.w) X.A (subscriptTail e (.Slice lo hi none p2) v (.ref s3.heap.objs.size)) (EP X pins σ Q) X.xe {s3 with heap:=s3.heap.push {cls:=.type "slice", data:=.fields #[vl,vu,.none]} };exact tail_any (ops:=[.ref s3.heap.objs.size,v]) ht hT hg (by with_unfolding_all rfl)
def cutV (xs:List V) (lo hi:Option Int):List V:=(xs.drop (HT.sIx xs.length 0 lo)).take (HT.sIx xs.length xs.length hi-HT.sIx xs.length 0 lo)
theorem zlj (xs:List V) (lo hi:Option Int):(cutV xs lo hi).length<=xs.length:=by
 unfold cutV;rw [Ww,Yc];omega
end
end L2
namespace L2
open PySem PySem.Spec PyProof.Rows
def ixN (n:Nat) (i:Int):Option Nat:=if 0<=i then (if i<n then some i.toNat else none) else if -(n:Int)<=i then some (i+n).toNat else none
def atI {α:Type} (xs:List α) (i:Int):Option α:=(ixN xs.length i).bind fun j=>xs[j]?
theorem zrj {n:Nat} {i:Int} {j:Nat} (h:ixN n i=some j):seqIndex? i n=some j/\j<n /\ -(n:Int)<=i/\i<n:=by
 unfold ixN at h;by_cases h0:0<=i
 ·rw [if_pos h0] at h;by_cases h1:i<n
  ·rw [if_pos h1] at h;have e:i.toNat=j:=Z3 h;exact⟨by rw [seqIndex_of h0 h1,e],by omega,by omega,h1⟩
  ·rw [if_neg h1] at h;cases h
 ·rw [if_neg h0] at h;by_cases h1 : -(n:Int)<=i
  ·rw [if_pos h1] at h;have e:(i+n).toNat=j:=Z3 h;exact⟨by rw [Vy (by omega) h1,e],by omega,h1,by omega⟩
  ·rw [if_neg h1] at h;cases h
theorem ztb {α:Type} {xs:List α} {i:Int} {v:α} (h:atI xs i=some v):∃ j,seqIndex? i xs.length=some j/\xs[j]? = some v/\j<xs.length /\ -(xs.length:Int)<=i/\i<xs.length:=by
 unfold atI at h;cases e:ixN xs.length i with
 | none=>rw [e] at h;cases h
 | some j=>
  rw [e] at h;obtain⟨h1,h2,h3,h4⟩:=zrj e
  exact⟨j,h1,h,h2,h3,h4⟩
theorem atI_last {α:Type} (xs:List α) (v:α):atI (xs++[v]) (-1)=some v:=by
 have hl:(xs++[v]).length=xs.length+1:=by simp
 have e:ixN (xs++[v]).length (-1)=some xs.length:=by
  unfold ixN;rw [hl,if_neg (by decide),if_pos (by omega)];congr 1
  omega
 unfold atI;rw [e];show (xs++[v])[xs.length]? = some v;simp
def ztj (b:Expr):Prop:=∀ o i,subscripted b false o i=operate [o,i] (getItem o i)
def IxR (X:Cx) (r:R2):Prop:=
 ∀ (value slice:Expr) (pins:List (Addr×Obj)) (s:Shared) (σ:St) (H:Hp) (x y:V) (v u:Value) (Q:VK),Inv X pins σ H s->RelV x v->RelV y u->r x y H Q ->
  subscripted slice false v u=operate [v,u] (getItem v u)->wpAny (model X.prog X.w) X.A (subscriptTail value slice v u) (EP X pins σ Q) X.xe s
def MtR (X:Cx) (id:String) (r:V->List V->Hp->VK->Prop):Prop:=
 ∀ (pins:List (Addr×Obj)) (s:Shared) (σ:St) (H:Hp) (x:V) (xs:List V) (v:Value) (us:List Value) (Q:VK),Inv X pins σ H s->RelV x v->Vals xs us->r x xs H Q ->
  wpAny (model X.prog X.w) X.A (call (.builtin id) (v::us)) (EP X pins σ Q) X.xe s
section
variable {X:Cx} {a b:Expr} {ta tb:TE} {pos:Pos}
theorem pe_ix {r:R2} (hr:IxR X r) (ha:PE X a ta) (hb:PE X b tb) (hs:ztj b):PE X (.Subscript a b pos) (tOp r ta tb):=by
 intro pins s σ H Q I h;exact Subscript_ (binT ha hb I h fun v u s2 x y H2 I2 rx ry q=>hr a b pins s2 σ H2 x y v u Q I2 rx ry q (hs _ _))
def rIxL (K:PySem.W.Frag):R2:=fun x y H Q=>∃ p xs i v,x=.ref p/\y=.int i/\SqL K H p xs/\atI xs i=some v/\Q v H
def rIxT (K:PySem.W.Frag):R2:=fun x y H Q=>∃ p xs i v,x=.ref p/\y=.int i/\SqT K H p xs/\atI xs i=some v/\Q v H
theorem ycf:IxR X (rIxL X.K):=by
 intro value slice pins s σ H x y v u Q I rx ry h hs;obtain⟨p,xs,i,z,rfl,rfl,hq,he,q⟩:=h
 cases rx;obtain⟨t,rfl⟩:=ry
 obtain⟨its,r,pl,hz⟩:=I.list hq
 obtain⟨j,h1,h2,h3,h4,h5⟩:=ztb he
 obtain⟨w,ew,rw'⟩:=r.get h2
 have hl:=r.length;have hn:=zmt;have fin:EP X pins σ Q w s:=⟨z,H,I,rw',q⟩;by_cases h0:0<=i
 ·have hj:i.toNat=j:=by
   rw [seqIndex_of h0 h5] at h1;exact Z3 h1
  exact item_listR pl.isList h0 (by omega) (by rw [hj];simpa using ew) fin hs
 ·have hj:(i+(its.toArray.size:Int)).toNat=j:=by
   rw [Vy (by omega) h4] at h1;rw [Zq,<- hl];exact Z3 h1
  exact Vq (x:=w) pl.isList.typeIs slot_list_getitem.lookup
   (wpAny_getItem_list_neg (Q:=fun r s'=>r=w/\EP X pins σ Q r s') pl.isList (by omega) (by rw [Zq] <;> omega) (by omega) (by rw [hj];simpa using ew) ⟨rfl,fin⟩) hs
theorem ix_tup:IxR X (rIxT X.K):=by
 intro value slice pins s σ H x y v u Q I rx ry h hs;obtain⟨p,xs,i,z,rfl,rfl,hq,he,q⟩:=h
 cases rx;obtain⟨t,rfl⟩:=ry
 obtain⟨its,r,pl,hz⟩:=I.tuple hq
 obtain⟨j,h1,h2,h3,h4,h5⟩:=ztb he
 obtain⟨w,ew,rw'⟩:=r.get h2
 have hl:=r.length;have hn:=zmt;have fin:EP X pins σ Q w s:=⟨z,H,I,rw',q⟩;exact Vq (x:=w) pl.typeIs slot_tuple_getitem.lookup
  (getItem_tuple (j:=j) (Q:=fun r s'=>r=w/\EP X pins σ Q r s') pl (by omega) (by omega) (by rw [Zq,<- hl];exact h1) (by simpa using ew) ⟨rfl,fin⟩) hs
theorem zog (its:List Value) (n j:Nat) (u:Value):Obj.mapSeq (·.setIfInBounds j u) {cls:=.type "list", data:=.seq its.toArray n}={cls:=.type "list", data:=.seq (its.set j u).toArray n}:=by
 simp [Obj.mapSeq]
theorem Inv.lst {pins:List (Addr×Obj)} {σ:St} {H:Hp} {s:Shared} {p:Addr} {xs:List V} (I:Inv X pins σ H s) (h:H p=some (.lst xs)) :
  ∃ (its:List Value) (n:Nat),Vals xs its/\s.heap.get? p=some {cls:=.type "list", data:=.seq its.toArray n}/\xs.length<=sizeLine:=by
 obtain⟨z,its,n,r,e⟩:=I.hok p _ h
 exact⟨its,n,r,e,z⟩
theorem Inv.lstUpd {pins:List (Addr×Obj)} {σ:St} {H:Hp} {s:Shared} {p:Addr} {xs ys:List V} {its its':List Value} {n n':Nat} {f:Obj->Obj} (I:Inv X pins σ H s) (h:H p=some (.lst xs))
  (ho:s.heap.get? p=some {cls:=.type "list", data:=.seq its.toArray n}) (hf:f {cls:=.type "list", data:=.seq its.toArray n}={cls:=.type "list", data:=.seq its'.toArray n'}) (r:Vals ys its') (hz:ys.length<=sizeLine) (t:Nat) :
  Inv X pins σ (upd H p (.lst ys)) {s with heap:=s.heap.update p f,toks:=t}:=by
 have e:(s.heap.update p f).get? p=some {cls:=.type "list", data:=.seq its'.toArray n'}:=by
  rw [Wy f ho (by rw [hf] <;> rfl),hf]
 refine I.write (x:=p) (e:=p) (by rw [h];trivial) (.inl rfl) (fun b u hb q=>(Yn _ _ (Wh hb)).trans q) ⟨_,e⟩ ?_;exact⟨hz,its',n',r,e⟩
def rSetL:V->V->V->Hp->(Hp->Prop)->Prop:=fun o i v H Q=>∃ p xs k j,o=.ref p/\i=.int k/\H p=some (.lst xs)/\ixN xs.length k=some j/\Q (upd H p (.lst (xs.set j v)))
theorem zul:PSet X rSetL:=by
 intro pins s σ H o i v ov iv u Q I ro ri rv h;obtain⟨p,xs,k,j,rfl,rfl,hp,hj,q⟩:=h
 cases ro;obtain⟨t,rfl⟩:=ri
 obtain⟨its,n,r,ho,hz⟩:=I.lst hp
 obtain⟨h1,h2,h3,h4⟩:=zrj hj
 have hl:=r.length;have hn:=zmt;have I':Inv X pins σ (upd H p (.lst (xs.set j v))) {s with heap:=s.heap.update p (Obj.mapSeq (·.setIfInBounds j u))}:=
  I.lstUpd hp ho (zog its n j u) (r.set rv j) (by rw [Qe];exact hz) s.toks
 by_cases h0:0<=k
 ·have hk:k.toNat=j:=by
   rw [seqIndex_of h0 h4] at h1;exact Z3 h1
  exact PySem.W.ki_setAt ho h0 (by omega) (by rw [Zq,<- hl];exact h4) (by rw [hk];exact⟨_,I',q⟩)
 ·have hk:(k+(its.toArray.size:Int)).toNat=j:=by
   rw [Vy (by omega) h3] at h1;rw [Zq,<- hl];exact Z3 h1
  exact PySem.W.ki_setBack ho (by omega) (by rw [Zq,<- hl];exact h3) (by omega) (by rw [hk];exact⟨_,I',q⟩)
theorem zix (lo hi:Option Int) (n:Nat):(sliceBounds lo hi none n).1=((HT.sIx n 0 lo:Nat):Int)/\(sliceBounds lo hi none n).2.1=((HT.sIx n n hi:Nat):Int)/\(sliceBounds lo hi none n).2.2=1:=by
 refine⟨?_,?_,rfl⟩
 ·cases lo with
  | none=>simp [sliceBounds,HT.sIx]
  | some i=>
   simp only [sliceBounds,HT.sIx,Vh,show (1:Int) > 0 by decide,if_true];by_cases h:i<0
   ·simp only [h,if_true] <;> omega
   ·simp only [h,if_false] <;> omega
 ·cases hi with
  | none=>simp [sliceBounds,HT.sIx]
  | some i=>
   simp only [sliceBounds,HT.sIx,Vh,show (1:Int) > 0 by decide,if_true];by_cases h:i<0
   ·simp only [h,if_true] <;> omega
   ·simp only [h,if_false] <;> omega
theorem zhe (its:List Value) (lo hi:Option Int):slicePick its.toArray lo hi none=((its.drop (HT.sIx its.length 0 lo)).take (HT.sIx its.length its.length hi-HT.sIx its.length 0 lo)).toArray:=by
 obtain⟨h1,h2,h3⟩:=zix lo hi its.toArray.size
 unfold slicePick;rw [h1,h2,h3];simp only [sliceRange_one,pick_run,Zq] <;> rfl
def rSlL (K:PySem.W.Frag):V->Option Int->Option Int->Hp->VK->Prop:=fun x lo hi H Q=>∃ a xs,x=.ref a/\SqL K H a xs/\∀ p,H p=none->Q (.ref p) (upd H p (.lst (cutV xs lo hi)))
theorem yab:SlR X (rSlL X.K):=by
 intro pins s σ H x v vl vu lo hi sl Q I rx hs pl pu h;obtain⟨a,xs,rfl,hx,q⟩:=h
 cases rx;obtain⟨its,r,ht,hz⟩:=I.list hx
 have hlen:=r.length;refine⟨"list", _,slot_list_getitem.lookup,ht.isList.typeIs,?_⟩
 refine wpAny_getItem_list_slice ht.isList hs pl pu .none (by simp) ?_ (by rw [Zq] <;> omega);rw [zhe,<- hlen];refine⟨.ref s.heap.objs.size,_,I.laid (t':=s.toks) (o:=.lst (cutV xs lo hi)) (fun b ob q=>Zp _ q) (Zj _) ?_,rfl,q _ (I.hok.fresh (Zj _))⟩
 exact⟨Ya (zlj xs lo hi) hz,_,0,(r.drop (HT.sIx xs.length 0 lo)).take (HT.sIx xs.length xs.length hi-HT.sIx xs.length 0 lo),Yf _ rfl⟩
theorem zdk:zde X (.builtin "len") (fun xs H Q=>∃ p ys,xs=[.ref p]/\(SqL X.K H p ys\/SqT X.K H p ys)/\Q (.int ys.length) H):=by
 intro pins s σ H xs us Q I r h;obtain⟨p,ys,rfl,hq,q⟩:=h
 obtain⟨u,rfl,rx⟩:=zfz r
 cases rx;have hn:=zmt;rcases hq with hq | hq
 ·obtain⟨its,r',pl,hz⟩:=I.list hq
  have hlen:=r'.length;exact Calls.call_len_list pl.isList (by simp only [Zq] <;> omega) ⟨.int ys.length,H,I.tok _,⟨s.toks+1,by rw [Zq,hlen]⟩,q⟩
 ·obtain⟨its,r',pl,hz⟩:=I.tuple hq
  have hlen:=r'.length;exact len_tuple pl (by simp only [Zq] <;> omega) ⟨.int ys.length,H,I.tok _,⟨s.toks+1,by rw [Zq,hlen]⟩,q⟩
theorem zdj:zde X (.type "list") (fun xs H Q=>∃ p ys,xs=[.ref p]/\(SqL X.K H p ys\/SqT X.K H p ys)/\∀ l,H l=none->Q (.ref l) (upd H l (.lst ys))):=by
 intro pins s σ H xs us Q I r h;obtain⟨p,ys,rfl,hq,q⟩:=h
 obtain⟨u,rfl,rx⟩:=zfz r
 cases rx;have fin:∀ (its:List Value),Vals ys its->ys.length<=sizeLine->∀ (h':Heap) (c':Nat),(∀ b o',s.heap.get? b=some o'->h'.get? b=some o') ->
   h'.get? s.heap.objs.size=some {cls:=.type "list", dict:=none,data:=.seq its.toArray c',slots:=#[]}->EP X pins σ Q (.ref s.heap.objs.size) {s with heap:=h'}:=fun its r' hz h' c' kp e=>
  ⟨.ref s.heap.objs.size,_,I.laid (t':=s.toks) kp (Zj _) (show ObjOk X.prog X.w _ h' _ (.lst ys) from⟨hz,its,c',r',e⟩),rfl,q _ (I.hok.fresh (Zj _))⟩
 rcases hq with hq | hq
 ·obtain⟨its,r',pl,hz⟩:=I.list hq
  have hlen:=r'.length;obtain⟨o,ho,hc,n,hd⟩:=pl.isList
  exact call_list_seq p (.inl rfl) ho hc hd (fun h' c' kp e=>fin its r' hz h' c' kp e) (by simp only [Zq] <;> omega)
 ·obtain⟨its,r',pl,hz⟩:=I.tuple hq
  have hlen:=r'.length;obtain⟨o,ho,hc,n,hd⟩:=pl
  exact call_list_seq p (.inr rfl) ho hc hd (fun h' c' kp e=>fin its r' hz h' c' kp e) (by simp only [Zq] <;> omega)
theorem zie:zde X (.type "tuple") (fun xs H Q=>∃ p ys,xs=[.ref p]/\((SqL X.K H p ys/\∀ l,H l=none->Q (.ref l) (upd H l (.tup ys)))\/(SqT X.K H p ys/\Q (.ref p) H))):=by
 intro pins s σ H xs us Q I r h;obtain⟨p,ys,rfl,h⟩:=h
 obtain⟨u,rfl,rx⟩:=zfz r
 cases rx;rcases h with⟨hq,q⟩ | ⟨hq,q⟩
 ·obtain⟨its,r',pl,hz⟩:=I.list hq
  have hlen:=r'.length;refine call_tuple_list pl.isList (fun h' kp=>?_) (by simp only [Zq] <;> omega);have I1:Inv X pins σ H {s with heap:=h'}:=I.kept (t':=s.toks) kp;have I2:Inv X pins σ (upd H h'.objs.size (.tup ys)) {s with heap:=h'.push {cls:=.type "tuple", data:=.seq its.toArray} }:=
   I1.laid (t':=s.toks) (fun b o e=>Zp _ e) (Zj _) (show ObjOk X.prog X.w _ _ _ (.tup ys) from⟨hz,its,r',IsTup.new _ _⟩)
  exact⟨.ref h'.objs.size,_,I2,rfl,q _ (I1.hok.fresh (Zj _))⟩
 ·obtain⟨its,r',pl,hz⟩:=I.tuple hq
  exact call_tuple_same pl ⟨.ref p,H,I,rfl,q⟩
def tyV (K:PySem.W.Frag) (T:String) (x:V) (H:Hp):Prop:=match x with
 | .str _=>T = "str"
 | .int _=>T = "int"
 | .ref p=>(T = "list" /\ ∃ xs,SqL K H p xs)\/(T = "tuple" /\ ∃ o,K.lookup p=some o/\o.cls=.type "tuple" /\ o.dict=none) \/
   (T = "dict" /\ ((∃ kvs,H p=some (.dK kvs))\/∃ kvs,H p=some (.dT kvs)))\/(T = "set" /\ ∃ S n,H p=some (.set S n))
 | _=>False
theorem zxj {pins:List (Addr×Obj)} {σ:St} {H:Hp} {s:Shared} {T:String} {x:V} {v:Value} (I:Inv X pins σ H s) (r:RelV x v) (ty:tyV X.K T x H) :
  s.TypeIs v T/\∀ a,v=.ref a->∃ ob,s.heap.get? a=some ob/\ob.dict=none:=by
 cases x with
 | str z=>
  obtain⟨t,rfl⟩:=r
  cases (show T = "str" from ty)
  exact⟨typeIs_str s z t,fun _ e=>nomatch e⟩
 | int i=>
  obtain⟨t,rfl⟩:=r
  cases (show T = "int" from ty)
  exact⟨typeIs_int s i t,fun _ e=>nomatch e⟩
 | ref p=>
  cases r;rcases ty with⟨rfl,xs,hq⟩ | ⟨rfl,o,hk,hc,hd⟩ | ⟨rfl,hk⟩ | ⟨rfl,S,n,hk⟩
  ·obtain⟨its,_,pl,_⟩:=I.list hq
   refine⟨pl.isList.typeIs,fun a e=>?_⟩
   cases e;obtain⟨o,n,e,c,hd,_⟩:=pl
   exact⟨o,e,hd⟩
  ·refine⟨⟨o,I.kIn p o hk,hc⟩,fun a e=>?_⟩
   cases e;exact⟨o,I.kIn _ o hk,hd⟩
  ·have z:∃ o,s.heap.get? p=some o/\o.ExactDict:=by
    rcases hk with⟨kvs,hk⟩ | ⟨kvs,hk⟩
    ·obtain⟨_,_,_,_,o,_,_,e,ex,_⟩:=I.hok p _ hk
     exact⟨o,e,ex⟩
    ·obtain⟨_,_,_,_,o,_,_,e,ex,_⟩:=I.hok p _ hk
     exact⟨o,e,ex⟩
   obtain⟨o,e,ex⟩:=z
   refine⟨⟨o,e,ex.1⟩,fun a e2=>?_⟩
   cases e2;exact⟨o,e,ex.2.1⟩
  ·obtain⟨o,_,_,_,e,ex,_⟩:=I.hok p _ hk
   refine⟨⟨o,e,ex.1⟩,fun a e2=>?_⟩
   cases e2;exact⟨o,e,ex.2.1⟩
 | _=>exact False.elim ty
def tBM0 (K:PySem.W.Frag) (T:String) (r:V->List V->Hp->VK->Prop) (to:TE):TE:=fun σ H Q=>to σ H fun x H1=>tyV K T x H1/\r x [] H1 Q
def tBM (K:PySem.W.Frag) (T:String) (r:V->List V->Hp->VK->Prop) (to:TE) (t:TA):TE:=fun σ H Q=>to σ H fun x H1=>tyV K T x H1/\t σ H1 fun xs H2=>r x xs H2 Q
variable {o e:Expr} {es:List Expr} {to:TE} {t:TA} {name:Str} {apos cpos:Pos} {T id:String} {r:V->List V->Hp->VK->Prop}
theorem zxy (pa:PlainAttrs T) (slot:Slot T name id) (hty:typeOf (.builtin id)=pure (.type "method_descriptor")) (hm:MtR X id r) (ho:PE X o to)
  (hbase:attributeBase o name X.env (eval o X.env)=eval o X.env:=by rfl) (hline:(apos.endLine == cpos.line)=true:=by rfl):PE X (.Call (.Attribute o name apos) [] [] cpos) (tBM0 X.K T r to):=by
 intro pins s σ H Q I h;refine wpAny_Call_method0_late hbase hline (thn (ho pins s σ H _ I h) fun v s1 ⟨x,H1,I1,r1,ty,q1⟩=>?_);obtain⟨h1,h2⟩:=zxj I1 r1 ty
 exact⟨T,id,pa,slot,hty,h1,h2,Ur rfl (PySem.evalArgs_none (hm pins s1 σ H1 x [] v [] Q I1 r1 .nil q1))⟩
theorem pe_bm (pa:PlainAttrs T) (slot:Slot T name id) (hty:typeOf (.builtin id)=pure (.type "method_descriptor")) (hm:MtR X id r) (ho:PE X o to) (ha:PA X (e::es) t)
  (hbase:attributeBase o name X.env (eval o X.env)=eval o X.env:=by rfl)
  (hfew:((backTo cpos (starEach (e::es) X.env)).all (fun x=>!x.1) && (backToKw cpos (keywordEach [] X.env)).all (fun x=>x.1.isSome)
   && decide ((e::es).length+([]:List Keyword).length+(if ([]:List Keyword).isEmpty then 0 else 1)<30))=true:=by rfl)
  (hline:(apos.endLine == cpos.line)=true:=by rfl) (hs:starEach (e::es) X.env=(false,eval e X.env)::starEach es X.env:=by rfl) (hplain:(backTo cpos (starEach es X.env)).any (·.1)=false:=by rfl) :
  PE X (.Call (.Attribute o name apos) (e::es) [] cpos) (tBM X.K T r to t):=by
 intro pins s σ H Q I h;refine wpAny_Call_method_late hbase hfew hline rfl (thn (ho pins s σ H _ I h) fun v s1 ⟨x,H1,I1,r1,ty,q1⟩=>?_);obtain⟨h1,h2⟩:=zxj I1 r1 ty
 refine⟨T,id,pa,slot,hty,h1,h2,?_⟩
 have hA:=ha cpos pins s1 σ H1 _ I1 q1;rw [hs] at hA |-;refine Ur (by show (false || (backTo cpos (starEach es X.env)).any (·.1))=false;rw [hplain] <;> rfl) (Calls.evalArgs_plain ?_);exact thn hA fun us s2 ⟨vs,H2,I2,r2,q2⟩=>hm pins s2 σ H2 x vs v us Q I2 r1 r2 q2
end
end L2
namespace L2
open PySem PySem.Spec PyProof.Rows
def MtM (X:Cx) (id:String) (r:V->List V->Hp->VK->Prop):Prop:=
 ∀ (pins:List (Addr×Obj)) (s:Shared) (σ:St) (H:Hp) (x:V) (xs:List V) (v:Value) (us:List Value) (Q:VK),Inv X pins σ H s->RelV x v->Vals xs us->r x xs H Q ->
  wpAny (model X.prog X.w) X.A (call (.builtin id) (v::us)) (EP X pins σ Q) X.xe s
theorem Vals.one:∀ {x:V} {us:List Value},Vals [x] us->∃ u,us=[u]/\RelV x u:=fun h=>by
 cases h with
 | cons r t=>cases t;exact⟨_,rfl,r⟩
theorem Vals.two:∀ {x y:V} {us:List Value},Vals [x,y] us->∃ u v,us=[u,v]/\RelV x u/\RelV y v:=fun h=>by
 cases h with
 | cons r t=>
  cases t with
  | cons q t=>cases t;exact⟨_,_,rfl,r,q⟩
theorem Vals.zero:∀ {us:List Value},Vals [] us->us=[]
 | _,.nil=>rfl
theorem Vals.dropLast {xs:List V} {us:List Value} (h:Vals xs us):Vals xs.dropLast us.dropLast:=by
 induction h with
 | nil=>exact .nil
 | cons r t ih=>
  cases t with
  | nil=>exact .nil
  | cons q t'=>exact .cons r ih
theorem Vals.reverse {xs:List V} {us:List Value} (h:Vals xs us):Vals xs.reverse us.reverse:=by
 induction h with
 | nil=>exact .nil
 | cons r t ih=>rw [Ku,Ku];exact Vals.append ih (.cons r .nil)
theorem zon {α:Type} (l:List α):l.eraseIdx (l.length-1)=l.dropLast:=by
 induction l with
 | nil=>rfl
 | cons a r ih=>
  cases r with
  | nil=>rfl
  | cons b r=>
   have e:(a::b::r).length-1=((b::r).length-1)+1:=by
    have h1:(a::b::r).length=r.length+2:=rfl;have h2:(b::r).length=r.length+1:=rfl;omega
   rw [e,List.eraseIdx_cons_succ,ih]
   all_goals rfl
section
variable {X:Cx} {pins:List (Addr×Obj)} {σ:St} {H:Hp} {s:Shared} {l b:Addr} {xs ys zs:List V}
theorem Inv.lset {its its':List Value} {n:Nat} {f:Array Value->Array Value} {t':Nat} (I:Inv X pins σ H s) (hH:H l=some (.lst xs))
  (e:s.heap.get? l=some {cls:=.type "list", data:=.seq its.toArray n}) (hf:f its.toArray=its'.toArray) (hv:Vals ys its') (hz:ys.length<=sizeLine) :
  Inv X pins σ (upd H l (.lst ys)) {s with heap:=s.heap.update l (Obj.mapSeq f),toks:=t'}:=by
 have q:=PySem.IsL.update e f;rw [hf] at q;refine I.write (x:=l) (e:=l) (by rw [hH];exact trivial) (.inl rfl) (fun b' u hb hu=>(Yn s.heap (Obj.mapSeq f) (Wh hb)).trans hu) ⟨_,q⟩ ?_;exact⟨hz,its',_,hv,q⟩
theorem Inv.lnew {its:List Value} {t':Nat} (I:Inv X pins σ H s) (hv:Vals ys its) (hz:ys.length<=sizeLine) :
  Inv X pins σ (upd H s.heap.objs.size (.lst ys)) {s with heap:=s.heap.push {cls:=.type "list", data:=.seq its.toArray},toks:=t'}:=
 I.laid (fun _ _ q=>Zp _ q) (Zj _) ⟨hz,its,0,hv,Yf _ rfl⟩
theorem Inv.fresh (I:Inv X pins σ H s):H s.heap.objs.size=none:=I.hok.fresh (Zj _)
theorem Inv.lstM (I:Inv X pins σ H s) (hH:H l=some (.lst xs)):xs.length<=sizeLine/\∃ (its:List Value) (n:Nat),Vals xs its/\xs.length=its.length/\s.heap.get? l=some {cls:=.type "list", data:=.seq its.toArray n}:=by
 obtain⟨z,its,n,r,e⟩:=I.hok l _ hH
 exact⟨z,its,n,r,r.length,e⟩
end
section
variable {X:Cx}
def yat:V->List V->Hp->VK->Prop:=fun x vs H Q=>∃ l xs y,x=.ref l/\vs=[y]/\H l=some (.lst xs)/\xs.length<sizeLine/\Q .non (upd H l (.lst (xs++[y])))
theorem zji:MtM X "list.append" yat:=by
 intro pins s σ H x vs v us Q I rx rv h;obtain⟨l,xs,y,rfl,rfl,hH,hz,q⟩:=h
 cases rx;obtain⟨u,rfl,ru⟩:=rv.one
 obtain⟨z,its,n,r,hl,e⟩:=I.lstM hH
 refine Va F.slot_list_append ⟨_,e,rfl⟩ F.entry_list_append (F.args_list_append_2 _ _) (PySem.list_append l its.toArray n u (by rw [Zq];omega)) ⟨e,?_⟩;refine⟨.non,_,I.lset (its':=its++[u]) hH e (by simp) (r.append (.cons ru .nil)) ?_,rfl,q⟩
 rw [Zw,Uy];omega
def rPop:V->List V->Hp->VK->Prop:=fun x vs H Q=>∃ l xs y,x=.ref l/\vs=[]/\H l=some (.lst xs)/\xs[xs.length-1]? = some y/\Q y (upd H l (.lst xs.dropLast))
theorem mt_pop:MtM X "list.pop" rPop:=by
 intro pins s σ H x vs v us Q I rx rv h;obtain⟨l,xs,y,rfl,rfl,hH,hy,q⟩:=h
 cases rx;have hus:=rv.zero;subst hus;obtain⟨z,its,n,r,hl,e⟩:=I.lstM hH
 obtain⟨u,hu,ru⟩:=r.get hy
 have hy':its.toArray[its.toArray.size-1]? = some u:=by
  show its.toArray[its.length-1]? = some u;rw [<- Array.getElem?_toList,<- hl];exact hu
 refine Va F.slot_list_pop ⟨_,e,rfl⟩ F.entry_list_pop (F.args_list_pop_1 _) (MeetsSeq.list_pop_last l its.toArray n u hy' (by rw [Zq];omega)) ⟨e,?_⟩;refine⟨y,_,I.lset (its':=its.dropLast) hH e ?_ r.dropLast ?_,ru,q⟩
 ·show its.toArray.eraseIdxIfInBounds (its.toArray.size-1)=its.dropLast.toArray;rw [Zq,List.eraseIdxIfInBounds_toArray,zon]
 ·rw [Kh];omega
def rClear:V->List V->Hp->VK->Prop:=fun x vs H Q=>∃ l xs,x=.ref l/\vs=[]/\H l=some (.lst xs)/\Q .non (upd H l (.lst []))
theorem zvh:MtM X "list.clear" rClear:=by
 intro pins s σ H x vs v us Q I rx rv h;obtain⟨l,xs,rfl,rfl,hH,q⟩:=h
 cases rx;have hus:=rv.zero;subst hus;obtain⟨z,its,n,r,hl,e⟩:=I.lstM hH
 refine Va F.slot_list_clear ⟨_,e,rfl⟩ F.entry_list_clear (F.args_list_clear_1 _) (AutoSeq1.list_clear_list_0 l its.toArray n (by rw [Zq];omega)) ⟨e,?_⟩;exact⟨.non,_,I.lset (its':=[]) (ys:=[]) hH e rfl .nil (Yi _),rfl,q⟩
end
section
variable {prog:Program} {w:World} {A:Around} {E:Value->Shared->Prop} {s:Shared}
end
section
variable {X:Cx}
end
end L2
namespace Att
open PySem PySem.W PySem.Calls PyProof.Rows
theorem zfi {P:Params} {h:Heap}:∀ (ns:List Int) (vs:List Value),WellAll P h vs (ns.map WData.int)->IntsAre vs ns:=by
 intro ns;induction ns with
 | nil=>
  intro vs w;rw [Kp] at w;cases w;exact .nil
 | cons n ns ih=>
  intro vs w;rw [Yk] at w;cases w with
  | cons a b=>
   cases a;exact .cons _ _ (ih _ b)
theorem zpy {l:OpenLaw} {n:Nat} (hn:l.most=some n) {P:Params} {h:Heap} {args:List WData} {vals:List Value}
  (hpre:l.row.toRowW.claim.pre args=true) (hwl:WellAll P h vals args) :
  ∃ a vs ns,vals=[Value.ref a]/\args=[WData.list (ns.map WData.int)]/\h.get? a=some {cls:=.type "list", data:=.seq vs.toArray}/\IntsAre vs ns/\ns.length<=n:=by
 have hsh:WShape.hasAll [] args [.list .int]=true:=(pre_splitW hpre).1;have hc:l.pre.holds [] {args:=args}=true:=(pre_splitW hpre).2;obtain⟨d,r,rfl,h1,h2⟩:=hasAllW_cons hsh
 obtain rfl:=hasAllW_nil h2;obtain⟨xs,rfl,h3⟩:=hasW_list h1
 obtain⟨ns,rfl⟩:=items_int h3
 have hlen:ns.length<=n:=by
  unfold OpenLaw.pre at hc;have h4:(WTm.not (.lt (.lit (.int (n:Int))) (.len (.arg 0)))).holds [] {args:=[.list (ns.map .int)]}=true:=by
   have h4:=(holds_andW hc).1;rw [hn] at h4;exact h4
  have h5:=condW_of h4 (w_not (w_lt w_lit (w_len_list (w_arg rfl))));rw [Zc] at h5;refine Nat.le_of_not_lt fun q=>?_;have q':(n:Int)<((ns.length:Nat):Int):=by omega
  first
   | (rw [decide_eq_true q'] at h5;exact absurd h5 (by decide))
   | (simp at h5;omega)
 cases hwl with
 | cons w1 w2=>
  cases w2;cases w1 with
  | list ho hall=>exact⟨_,_,ns,rfl,rfl,ho,zfi ns _ hall,hlen⟩
theorem zqf (l:OpenLaw) (args:List WData):l.row.toRowW.claim.post args (.bool true) args=true:=
 postW_of (r:=l.row.toRowW) (X:=(true == true))
  (show WShape.has [] (.bool true) .bool=true by first | rfl | decide | simp [WShape.has,WShape.arms,WShape.armsAll])
  (show (WTm.eq .res (.lit (.bool true))).value [] {args:=args,res:=some (.bool true),after:=args}=some (.bool (true == true)) from w_eq_bool (w_res rfl) w_lit) rfl
theorem attach_call {l:OpenLaw} {n:Nat} {q:Program} {loose:List Str} {XP:(Str->Option Value)->Heap->Prop} {YP:World->Heap->Prop} {d:DefRec}
  (hn:l.most=some n) (hdf:d.params.defaults=[])
  (call:∀ (w:World) (s₀ s₁:Shared) (mg mb:Str->Option Value) (fa:Addr) (o:Obj) (pm cd doc:Value) (a:Addr) (vs:List Value) (ns:List Int),
   Ground q loose [] XP w s₀ mg mb s₁.heap->YP w s₁.heap ->
   s₁.heap.get? fa=some o->o.data=.func (docDef d.name d.params d.body d.scope pm cd doc)->s₁.heap.CodeRec cd d.name->mg d.name=some (.ref fa) ->
   s₁.heap.get? a=some {cls:=.type "list", data:=.seq vs.toArray}->IntsAre vs ns->ns.length<=n->s₁.gens = #[] ->
   codeAny (model l.prog w) callerA (.call (.ref fa) ⟨[.ref a],[]⟩) (fun r s'=>r=.ok (.ret (.bool true))/\OldK s₁.heap s'.heap/\s'.os=s₁.os/\AllBare s'.gens) s₁) :
  WalkO q loose XP YP l.row.toRowW d [] (fun f vs=>PySem.call f vs):=by
 intro w s₀ s₁ mg mb G Y fa o pm cd doc dV kV ho hd hcd hD hmg hg args vals as hpre hlay hrd hwl hlo;obtain rfl:dV=.none:=Dflts.none hD hdf;obtain rfl:kV=.none:=Dflts.noKw hD;obtain⟨a,vs,ns,rfl,rfl,hobj,hints,hlen⟩:=zpy hn hpre hwl
 refine enter_call (Vz (call w s₀ s₁ mg mb fa o pm cd doc a vs ns G Y ho (fd_plain hd) hcd hmg hobj hints hlen hg) fun r s' hq=>?_);obtain⟨rfl,h2,h3,h4⟩:=hq
 exact⟨.inl ⟨.bool true,.bool true,[],rfl,fun _=>rfl,.bool true,zqf l _,fun _=>⟨List.Pairwise.nil,fun _ hm=>(nomatch hm)⟩⟩,h2,h3,h4⟩
section
variable {prog:Program} {w:World} {A:Around} {E:Value->Shared->Prop} {s:Shared} {K:Frag}
end
end Att
namespace L2
open PySem PySem.Spec PyProof.Rows
theorem zio:∀ {vs:List Value} {ns:List Int},IntsAre vs ns->Vals (ns.map V.int) vs
 | _,_,.nil=>.nil
 | _,_,.cons n t h=>.cons ⟨t,rfl⟩ (zio h)
def Only (H:Hp):Prop:=∀ b,H b=none\/∃ o xs,H b=some (.frz o (.lst xs))
theorem zvs {P:Program} {w:World} {K:PySem.W.Frag} {mg mb:Str->Option Value} {CX:CXT} {k:Nat} {fa a:Addr} {fd:FuncData} {x:Str} {sp:Sp} {s₁:Shared} {vs:List Value} {ns:List Int}
  (KX:K.In s₁.heap) (hns:s₁.heap.Ns mainGlobals mg) (hb:s₁.heap.Ns builtinsNs mb) (hbb:∀ x:Str,x ≠ "__name__" -> mb x=bootBuiltins x) (hlim:s₁.heap.NoLimit) (hg:s₁.gens = #[])
  (ha:s₁.heap.get? a=some {cls:=.type "list", data:=.seq vs.toArray}) (hi:IntsAre vs ns) (hl:ns.length<=sizeLine) (hr:Room k callerA)
  (F:∀ base:Heap,K.In base->base.Ns mainGlobals mg->FnOk P w K mg base CX k fa fd [x] sp) (hbind:∀ (s:Shared) (u:Value),BindsTo s fd ⟨[u],[]⟩ [(x,u)])
  (hsp:∀ H:Hp,Only H->SqL K H a (ns.map V.int)->sp [.ref a] H (fun v _=>v=.bl true) fun _ _ _=>False)
  (hCX:∀ H e s',CX [] H s₁ (fun _ _ _=>False) e s'->False) :
  codeAny (model P w) callerA (.call (.ref fa) ⟨[.ref a],[]⟩) (fun r s'=>r=.ok (.ret (.bool true))/\OldK s₁.heap s'.heap/\s'.os=s₁.os/\AllBare s'.gens) s₁:=by
 have rv:=zio hi;have lenV:=hi.length;have core:∀ H:Hp,Only H->SqL K H a (ns.map V.int)->HOk P w H s₁.heap->(∀ b,H b≠none->b=a)->(H a≠none->K.lookup a=none) ->
   codeAny (model P w) callerA (.call (.ref fa) ⟨[.ref a],[]⟩) (fun r s'=>r=.ok (.ret (.bool true))/\OldK s₁.heap s'.heap/\s'.os=s₁.os/\AllBare s'.gens) s₁:=by
  intro H hO hS hok hA hK;have base_of:∀ {b:Addr} {o:Obj},s₁.heap.get? b=some o->H b=none->(hidT s₁.heap H).get? b=some o:=fun e n=>zvw e n
  have noA:∀ {b:Addr} {o:Obj} {es:Array DictEntry} {ep:Nat},s₁.heap.get? b=some o->o.data=.dict es ep->H b=none:=fun {b o es ep} e d=>by
   cases q:H b with
   | none=>rfl
   | some u=>
    have e':b=a:=hA b (by rw [q];simp);subst e';rw [ha] at e;cases e;have d':Data.seq vs.toArray _=Data.dict es ep:=d;cases d'
  have nsK:∀ {b:Addr} {m:Str->Option Value},s₁.heap.Ns b m->(hidT s₁.heap H).Ns b m:=fun {b m} ⟨o,es,ep,e,d,r⟩=>⟨o,es,ep,base_of e (noA e d),d,r⟩
  have hKb:K.In (hidT s₁.heap H):=fun b o e=>base_of (KX b o e) (by
   cases q:H b with
   | none=>rfl
   | some u=>
    have e':b=a:=hA b (by rw [q];simp);subst e';rw [hK (by rw [q];simp)] at e;cases e)
  have hM:Mod K mg (hidT s₁.heap H):=⟨hKb,nsK hns,⟨mb,nsK hb,hbb⟩,let ⟨mc,h1,h2⟩:=hlim;⟨mc,nsK h1,h2⟩⟩;have e0:Env0 P w K mg (hidT s₁.heap H) callerA [] s₁ H:=⟨rfl,hM,fun b o e=>ybk e,Nat.le_of_eq (zro _ _),trivial,fun b hb=>absurd (show b∈([]:List Addr) from hb) (by simp),hok,.of_eq hg⟩;refine Vz ((F _ hKb (nsK hns)).run callerA [] s₁ H ⟨[.ref a],[]⟩ [.ref a] [.ref a] _ _ hr e0 (hbind s₁ (.ref a)) (.cons rfl .nil) (hsp H hO hS)) fun r s' h=>?_;cases r with
  | error e=>exact (hCX H e s' h).elim
  | ok fl=>
   cases fl with
   | next=>exact False.elim h
   | brk=>exact False.elim h
   | cont=>exact False.elim h
   | ret u=>
    obtain⟨v,H',os,bare,un,hok',r',q⟩:=h
    have q':v=.bl true:=q;subst q';obtain rfl:u=Value.bool true:=r';refine⟨rfl,OldK.of_keep fun b o e=>?_,os,bare⟩
    cases q:H b with
    | none=>exact un.keep b o e q (by intro z;exact absurd (show b∈([]:List Addr) from z) (by simp)) (by simp)
    | some u=>
     rcases hO b with z | ⟨ob,xs,z⟩
     ·rw [q] at z;cases z
     ·have z2:=un.frzs b ob _ z;obtain⟨e1,_⟩:=hok b _ z
      obtain⟨e2,_⟩:=hok' b _ z2
      rw [e] at e1;cases e1;exact e2
 cases hk:K.lookup a with
 | some o=>
  have e:=KX a o hk;rw [ha] at e;cases e;refine core (fun _=>none) (fun _=>.inl rfl) (.inr ⟨_,vs.toArray,_,hk,rfl,rfl,rfl,by rw [Zq,lenV];exact hl,by simpa using rv⟩) (fun b u z=>by have z':(none:Option HO)=some u:=z;cases z') (fun b z=>absurd rfl z) fun z=>absurd rfl z
 | none=>
  refine core (fun b=>if b=a then some (.frz {cls:=.type "list", data:=.seq vs.toArray} (.lst (ns.map V.int))) else none) (fun b=>?_) (.inl (.inr ⟨{cls:=.type "list", data:=.seq vs.toArray},if_pos rfl⟩)) (fun b u z=>?_) (fun b z=>?_) fun _=>hk
  ·by_cases hb:b=a
   ·exact .inr ⟨_,_,if_pos hb⟩
   ·exact .inl (if_neg hb)
  ·by_cases hb:b=a
   ·have z':=(if_pos hb).symm.trans z;cases z';subst hb;exact⟨ha,by rw [Zc];exact hl,vs,_,rv,ha⟩
   ·have z':=(if_neg hb).symm.trans z;cases z'
  ·by_cases hb:b=a
   ·exact hb
   ·exact absurd (if_neg hb) z
end L2
namespace L2
open PySem PySem.Spec PyProof.Rows
abbrev KOf {K:PySem.W.Frag} {h:Heap} (_:K.In h):PySem.W.Frag:=K
theorem walk_of {l:PySem.W.OpenLaw} {n k:Nat} {q:Program} {loose:List Str} {XP:(Str->Option Value)->Heap->Prop} {YP:World->Heap->Prop} {d:DefRec} {K:Params->PySem.W.Frag} {CX:World->CXT} {sp:World->Sp} {x:Str}
  (hn:l.most=some n) (hn2:n<=sizeLine) (hdf:d.params.defaults=[]) (hr:Room k callerA)
  (hY:∀ (w:World) (h:Heap),YP w h->(K w.params).In h)
  (F:∀ (w:World) (mg:Str->Option Value) (fa:Addr) (h:Heap),(K w.params).In h->h.Ns mainGlobals mg->mg d.name=some (.ref fa) ->
   ∃ fd:FuncData,(∀ (s:Shared) (u:Value),BindsTo s fd ⟨[u],[]⟩ [(x,u)]) /\
    ∀ base:Heap,(K w.params).In base->base.Ns mainGlobals mg->FnOk l.prog w (K w.params) mg base (CX w) k fa fd [x] (sp w))
  (hsp:∀ (w:World) (H:Hp) (a:Addr) (ns:List Int),ns.length<=n->Only H->SqL (K w.params) H a (ns.map V.int)->sp w [.ref a] H (fun v _=>v=.bl true) fun _ _ _=>False)
  (hCX:∀ (w:World) (H:Hp) (s:Shared) (e:Value) (s':Shared),CX w [] H s (fun _ _ _=>False) e s'->False) :
  PySem.W.WalkO q loose XP YP l.row.toRowW d [] (fun f vs=>PySem.call f vs):=by
 refine Att.attach_call hn hdf fun w s₀ s₁ mg mb fa o pm cd doc a vs ns G Y ho hd hcd hmg hobj hints hlen hg=>?_;have KX:=hY w _ Y;obtain⟨fd,hb,hF⟩:=F w mg fa _ KX G.T.g hmg
 exact zvs KX G.T.g G.T.b G.T.builtins G.T.nolimit hg hobj hints (Ya hlen hn2) hr hF hb (fun H hO hS=>hsp w H a ns hlen hO hS) fun H e s'=>hCX w H s₁ e s'
end L2
namespace L2
open PySem PySem.Spec PyProof.Rows
def zap (s:Stmt):Arguments:=match s with
 | .FunctionDef _ a _ _ _ _ _ _ _ _=>a
 | _=>{posonlyargs:=[],args:=[],vararg:=none,kwonlyargs:=[],kw_defaults:=[],kwarg:=none,defaults:=[]}
def Gb (s:Stmt):List Stmt:=match s with
 | .FunctionDef _ _ b _ _ _ _ _ _ _=>b
 | _=>[]
def V7 (s:Stmt):Scope:=match s with
 | .FunctionDef _ _ _ _ _ _ sc _ _ _=>sc
 | _=>{kind:=.function,names:=[],isGenerator:=false,isCoroutine:=false}
abbrev CX0:CXT:=fun _ _ _ _ _ _=>False
abbrev E0:XK:=fun _ _ _=>False
theorem pass0 {X:Cx}:ztk CX0 X E0:=fun _ _ _ _ _ _ _ h=>h.elim
structure Fun (K:PySem.W.Frag) (x qual:Str) (st:Stmt) (f:Addr) (fd:FuncData):Prop where
 ex:∃ (oc:Value) (od:Option Addr) (kV doc pm:Value) (an:Option Addr) (cdv ct:Value) (osl:Array (Option Value)),
  fd=PySem.W.fnOf x qual (zap st) (Gb st) (V7 st) .none kV doc pm an cdv ct/\K.lookup f=some ⟨oc,od,.func fd,osl⟩/\PySem.W.codeIn K cdv qual=true
 kp:PySem.W.keepIn K (.ref f)=true
section
variable {P:Program} {w:World} {K:PySem.W.Frag} {mg:Str->Option Value} {base:Heap}
theorem Fun.ok {x qual:Str} {st:Stmt} {f:Addr} {fd:FuncData} {N ps:List Str} {k:Nat} {sp:Sp} (F:Fun K x qual st f fd) (S:FnScope N ps (V7 st)) (len:∀ vs H Q E,sp vs H Q E->vs.length=ps.length)
  (hbody:∀ (cdv:Value) (A:Around) (outer:List Env) (s:Shared) (H:Hp) (vs:List V) (Q:VK) (E:XK),Room k (A.deeper (envOfC qual (V7 st) s.heap.objs.size f cdv))->sp vs H Q E ->
   ∃ t,PSs (cxOf CX0 P w K mg base N qual (V7 st) f cdv A outer s H E).nox (Gb st) t/\t {nx:=fun _ H'=>Q .non H',rt:=Q} (start N vs) H):FnOk P w K mg base CX0 (k+1) f fd ps sp:=by
 obtain⟨oc,od,kV,doc,pm,an,cdv,ct,osl,rfl,lk,hcd⟩:=F.ex
 refine fn_of lk hcd S len fun A outer s H vs Q E hr hsp=>?_;obtain⟨t,h,q⟩:=hbody cdv A outer s H vs Q E hr hsp
 exact⟨t,h.nox,q⟩
theorem Fun.binds {x qual:Str} {st:Stmt} {f:Addr} {fd:FuncData} {ps:List Str} (F:Fun K x qual st f fd)
  (h:∀ (kV doc pm:Value) (an:Option Addr) (cdv ct:Value) (us:List Value),us.length=ps.length->bindArgs (PySem.W.fnOf x qual (zap st) (Gb st) (V7 st) .none kV doc pm an cdv ct) ⟨us,[]⟩=pure (ps.zip us)):Binds K fd ps []:=by
 obtain⟨oc,od,kV,doc,pm,an,cdv,ct,osl,rfl,lk,hcd⟩:=F.ex
 exact .all (h kV doc pm an cdv ct)
theorem zyo {x qual:Str} {st:Stmt} {f:Addr} {oc:Value} {od an:Option Addr} {osl:Array (Option Value)} {kV doc pm cdv ct:Value} (l:K.lookup f=some ⟨oc,od,.func (PySem.W.fnOf x qual (zap st) (Gb st) (V7 st) .none kV doc pm an cdv ct),osl⟩)
  (c:PySem.W.codeIn K cdv qual=true) (k:PySem.W.keepIn K (.ref f)=true):Fun K x qual st f (PySem.W.fnOf x qual (zap st) (Gb st) (V7 st) .none kV doc pm an cdv ct):=⟨⟨oc,od,kV,doc,pm,an,cdv,ct,osl,rfl,l,c⟩,k⟩
end
section
variable {X:Cx}
end
theorem iteF {A B:Prop} (h:B):if false=true then A else B:=by
 rw [if_neg Zx];exact h
theorem iteT {A B:Prop} (h:A):if true=true then A else B:=by
 rw [if_pos rfl];exact h
def Same (H H':Hp):Prop:=∀ b o,H b=some o->H' b=some o
theorem Same.refl (H:Hp):Same H H:=fun _ _ h=>h
theorem Same.trans {H H1 H2:Hp} (a:Same H H1) (b:Same H1 H2):Same H H2:=fun c o h=>b c o (a c o h)
theorem Same.free {H H':Hp} (e:Same H H') {l:Addr} (h:H' l=Option.none):H l=Option.none:=by
 cases q:H l with
 | none=>rfl
 | some o=>
  rw [e l o q] at h;cases h
theorem Same.seq {K:PySem.W.Frag} {H H':Hp} {a:Addr} {xs:List V} (e:Same H H') (h:SqL K H a xs):SqL K H' a xs:=by
 rcases h with (h | ⟨o,h⟩) | h
 ·exact .inl (.inl (e _ _ h))
 ·exact .inl (.inr ⟨o,e _ _ h⟩)
 ·exact .inr h
end L2
namespace DL
open PySem L2
inductive D where
 | non | bl (b:Bool) | int (i:Int) | tup (l:List D) | lst (l:List D) | exc (x:Str)
def ExcO (a C:Addr):HO:=.ext fun h=>∃ o vs,h.get? a=some o/\o.cls=.ref C/\o.data=.fields vs
mutual
def Den (K:PySem.W.Frag) (F:Hp):D->V->Prop
 | .non,v=>v=.non
 | .bl b,v=>v=.bl b
 | .int i,v=>v=.int i
 | .tup l,v=>∃ a xs,v=.ref a/\SqT K F a xs/\DenL K F l xs
 | .lst l,v=>∃ a xs,v=.ref a/\SqL K F a xs/\DenL K F l xs
 | .exc x,v=>∃ a C,v=.ref a/\PySem.W.nsIn K mainGlobals x=some (some (.ref C))/\F a=some (ExcO a C)
def DenL (K:PySem.W.Frag) (F:Hp):List D->List V->Prop
 | [],xs=>xs=[]
 | d::l,xs=>∃ v vs,xs=v::vs/\Den K F d v/\DenL K F l vs
end
theorem Same.tup {K:PySem.W.Frag} {H H':Hp} {a:Addr} {xs:List V} (e:Same H H') (h:SqT K H a xs):SqT K H' a xs:=by
 rcases h with (h | ⟨o,h⟩) | h
 ·exact .inl (.inl (e _ _ h))
 ·exact .inl (.inr ⟨o,e _ _ h⟩)
 ·exact .inr h
mutual
theorem Den.mono {K:PySem.W.Frag} {F F':Hp} (s:Same F F'):∀ (d:D) {v:V},Den K F d v->Den K F' d v
 | .non,_,h=>by simpa only [Den] using h
 | .bl _,_,h=>by simpa only [Den] using h
 | .int _,_,h=>by simpa only [Den] using h
 | .tup l,_,h=>by
  simp only [Den] at h |-;obtain⟨a,xs,e,q,r⟩:=h
  exact⟨a,xs,e,Same.tup s q,DenL.mono s l r⟩
 | .lst l,_,h=>by
  simp only [Den] at h |-;obtain⟨a,xs,e,q,r⟩:=h
  exact⟨a,xs,e,s.seq q,DenL.mono s l r⟩
 | .exc _,_,h=>by
  simp only [Den] at h |-;obtain⟨a,C,e,q,r⟩:=h
  exact⟨a,C,e,q,s _ _ r⟩
theorem DenL.mono {K:PySem.W.Frag} {F F':Hp} (s:Same F F'):∀ (l:List D) {xs:List V},DenL K F l xs->DenL K F' l xs
 | [],_,h=>by simpa only [DenL] using h
 | d::l,_,h=>by
  simp only [DenL] at h |-;obtain⟨v,vs,e,q,r⟩:=h
  exact⟨v,vs,e,Den.mono s d q,DenL.mono s l r⟩
end
section
variable {K:PySem.W.Frag} {F F':Hp}
theorem DenL.nil:DenL K F [] []:=by simp only [DenL]
theorem DenL.cons {d:D} {l:List D} {v:V} {vs:List V} (h:Den K F d v) (r:DenL K F l vs):DenL K F (d::l) (v::vs):=by
 simp only [DenL];exact⟨v,vs,rfl,h,r⟩
theorem DenL.inv_nil {xs:List V} (h:DenL K F [] xs):xs=[]:=by simpa only [DenL] using h
theorem DenL.inv_cons {d:D} {l:List D} {xs:List V} (h:DenL K F (d::l) xs):∃ v vs,xs=v::vs/\Den K F d v/\DenL K F l vs:=by simpa only [DenL] using h
theorem DenL.length:∀ {l:List D} {xs:List V},DenL K F l xs->xs.length=l.length
 | [],_,h=>by rw [h.inv_nil];rfl
 | d::l,_,h=>by
  obtain⟨v,vs,e,_,r⟩:=h.inv_cons
  subst e;rw [Zu,Zu,r.length]
theorem DenL.get:∀ {l:List D} {xs:List V} {i:Nat} {d:D},DenL K F l xs->l[i]? = some d->∃ v,xs[i]? = some v/\Den K F d v
 | [],_,_,_,_,e=>by simp at e
 | d::l,_,0,d',h,e=>by
  obtain⟨v,vs,z,q,r⟩:=h.inv_cons
  subst z;simp at e;subst e
  exact⟨v,by simp,q⟩
 | d::l,_,i+1,d',h,e=>by
  obtain⟨v,vs,z,q,r⟩:=h.inv_cons
  subst z;obtain⟨u,h1,h2⟩:=DenL.get (i:=i) (d:=d') r (by simpa using e)
  exact⟨u,by simpa using h1,h2⟩
theorem DenL.at:∀ {l:List D} {xs:List V} {i:Nat} {v:V},DenL K F l xs->xs[i]? = some v->∃ d,l[i]? = some d/\Den K F d v
 | [],_,_,_,h,e=>by rw [h.inv_nil] at e;simp at e
 | d::l,_,0,v',h,e=>by
  obtain⟨v,vs,z,q,r⟩:=h.inv_cons
  subst z;simp at e;subst e
  exact⟨d,by simp,q⟩
 | d::l,_,i+1,v',h,e=>by
  obtain⟨v,vs,z,q,r⟩:=h.inv_cons
  subst z;obtain⟨u,h1,h2⟩:=DenL.at (i:=i) (v:=v') r (by simpa using e)
  exact⟨u,by simpa using h1,h2⟩
theorem DenL.append:∀ {l m:List D} {xs ys:List V},DenL K F l xs->DenL K F m ys->DenL K F (l++m) (xs++ys)
 | [],_,_,_,h,q=>by rw [h.inv_nil];simpa using q
 | d::l,m,_,ys,h,q=>by
  obtain⟨v,vs,z,p,r⟩:=h.inv_cons
  subst z;exact DenL.cons p (DenL.append r q)
theorem DenL.take:∀ {l:List D} {xs:List V} (n:Nat),DenL K F l xs->DenL K F (l.take n) (xs.take n)
 | [],_,n,h=>by rw [h.inv_nil];simpa using DenL.nil
 | _::_,_,0,_=>by simpa using DenL.nil
 | d::l,_,n+1,h=>by
  obtain⟨v,vs,z,p,r⟩:=h.inv_cons
  subst z;exact DenL.cons p (DenL.take n r)
theorem DenL.drop:∀ {l:List D} {xs:List V} (n:Nat),DenL K F l xs->DenL K F (l.drop n) (xs.drop n)
 | [],_,n,h=>by rw [h.inv_nil];simpa using DenL.nil
 | _::_,_,0,h=>by simpa using h
 | d::l,_,n+1,h=>by
  obtain⟨v,vs,z,p,r⟩:=h.inv_cons
  subst z;simpa using DenL.drop n r
theorem DenL.ints:∀ (ns:List Int),DenL K F (ns.map D.int) (ns.map V.int)
 | []=>DenL.nil
 | n::ns=>DenL.cons (by simp only [Den]) (DenL.ints ns)
theorem Den.int {i:Int} {v:V} (h:Den K F (.int i) v):v=.int i:=by simpa only [Den] using h
theorem Den.bl {b:Bool} {v:V} (h:Den K F (.bl b) v):v=.bl b:=by simpa only [Den] using h
theorem Den.non {v:V} (h:Den K F .non v):v=.non:=by simpa only [Den] using h
theorem Den.tup {l:List D} {v:V} (h:Den K F (.tup l) v):∃ a xs,v=.ref a/\SqT K F a xs/\DenL K F l xs:=by simpa only [Den] using h
theorem Den.lst {l:List D} {v:V} (h:Den K F (.lst l) v):∃ a xs,v=.ref a/\SqL K F a xs/\DenL K F l xs:=by simpa only [Den] using h
theorem Den.exc {x:Str} {v:V} (h:Den K F (.exc x) v):∃ a C,v=.ref a/\PySem.W.nsIn K mainGlobals x=some (some (.ref C))/\F a=some (ExcO a C):=by simpa only [Den] using h
theorem Den.int_mk {i:Int}:Den K F (.int i) (.int i):=by simp only [Den]
theorem Den.bl_mk {b:Bool}:Den K F (.bl b) (.bl b):=by simp only [Den]
theorem Den.non_mk:Den K F .non .non:=by simp only [Den]
theorem Den.tup_mk {l:List D} {a:Addr} {xs:List V} (q:SqT K F a xs) (r:DenL K F l xs):Den K F (.tup l) (.ref a):=by simp only [Den];exact⟨a,xs,rfl,q,r⟩
theorem Den.lst_mk {l:List D} {a:Addr} {xs:List V} (q:SqL K F a xs) (r:DenL K F l xs):Den K F (.lst l) (.ref a):=by simp only [Den];exact⟨a,xs,rfl,q,r⟩
end
inductive W where
 | val (d:D) | new (l:List D)
def W.d:W->D
 | .val d=>d
 | .new l=>.lst l
abbrev Rho:=List (Option D)
structure ER (K:PySem.W.Frag) (H0 Fc F H:Hp) (σ:St) (ρ:Rho):Prop where
 sub:Same F H
 same:Same H0 H
 base:Same Fc F
 new:∀ a o,F a=some o->Fc a=some o\/H0 a=none
 env:∀ (i:Nat) d,ρ[i]? = some (some d)->∃ v,σ[i]? = some (some v)/\Den K F d v
def RW (K:PySem.W.Frag) (H0 F H:Hp):W->V->Prop
 | .val d,v=>Den K F d v
 | .new l,v=>∃ a xs,v=.ref a/\F a=none/\H0 a=none/\H a=some (.lst xs)/\DenL K F l xs
theorem B6 {F:Hp} {a:Addr} {o:HO} (h:F a=none):Same F (upd F a o):=fun b u e=>by
 rw [Gh (fun z=>by subst z;rw [h] at e;cases e)];exact e
section
variable {K:PySem.W.Frag} {H0 Fc F H:Hp} {σ:St} {ρ:Rho}
theorem ER.lay (R:ER K H0 Fc F H σ ρ) {a:Addr} (o:HO) (hn:H a=none):ER K H0 Fc (upd F a o) (upd H a o) σ ρ/\Same F (upd F a o):=by
 have hF:F a=none:=by
  cases q:F a with
  | none=>rfl
  | some u=>rw [R.sub a u q] at hn;cases hn
 have h0:H0 a=none:=R.same.free hn;have sF:=B6 (o:=o) hF;refine⟨⟨fun b u e=>?_,R.same.trans (B6 hn),R.base.trans sF,fun b u e=>?_,fun i d e=>?_⟩,sF⟩
 ·by_cases hb:b=a
  ·subst hb;rw [Gj] at e |-;exact e
  ·rw [Gh hb] at e |-;exact R.sub b u e
 ·by_cases hb:b=a
  ·subst hb;exact .inr h0
  ·rw [Gh hb] at e;exact R.new b u e
 ·obtain⟨v,h1,h2⟩:=R.env i d e
  exact⟨v,h1,h2.mono sF⟩
theorem ER.freeze (R:ER K H0 Fc F H σ ρ) {a:Addr} {xs:List V} (hF:F a=none) (h0:H0 a=none) (hH:H a=some (.lst xs)):ER K H0 Fc (upd F a (.lst xs)) H σ ρ/\Same F (upd F a (.lst xs)):=by
 have sF:=B6 (o:=.lst xs) hF;refine⟨⟨fun b u e=>?_,R.same,R.base.trans sF,fun b u e=>?_,fun i d e=>?_⟩,sF⟩
 ·by_cases hb:b=a
  ·subst hb;rw [Gj] at e;cases e;exact hH
  ·rw [Gh hb] at e;exact R.sub b u e
 ·by_cases hb:b=a
  ·subst hb;exact .inr h0
  ·rw [Gh hb] at e;exact R.new b u e
 ·obtain⟨v,h1,h2⟩:=R.env i d e
  exact⟨v,h1,h2.mono sF⟩
theorem RW.freeze {w:W} {v:V} (R:ER K H0 Fc F H σ ρ) (h:RW K H0 F H w v):∃ F',Same F F'/\ER K H0 Fc F' H σ ρ/\Den K F' w.d v:=by
 cases w with
 | val d=>exact⟨F,Same.refl _,R,h⟩
 | new l=>
  obtain⟨a,xs,e,hF,h0,hH,r⟩:=h
  subst e;obtain⟨R',s⟩:=R.freeze hF h0 hH
  exact⟨_,s,R',Den.lst_mk (SqL.of Gj) (r.mono s)⟩
end
section
variable (K:PySem.W.Frag) (H0 Fc:Hp) (ρ:Rho)
def tD (w:W):TE:=fun σ H Q=>∃ F,ER K H0 Fc F H σ ρ/\∀ v H' F',Same F F'->ER K H0 Fc F' H' σ ρ->RW K H0 F' H' w v->Q v H'
def tDf (d:D):TE:=fun σ H Q=>∃ F,ER K H0 Fc F H σ ρ/\∀ v H' F',Same F F'->ER K H0 Fc F' H' σ ρ->Den K F' d v->Q v H'
def tDA (ds:List D):TA:=fun σ H Q=>∃ F,ER K H0 Fc F H σ ρ/\∀ vs H' F',Same F F'->ER K H0 Fc F' H' σ ρ->DenL K F' ds vs->Q vs H'
def tDT (b:Bool):TT:=fun σ H Q=>∃ F,ER K H0 Fc F H σ ρ/\∀ H' F',Same F F'->ER K H0 Fc F' H' σ ρ->Q b H'
end
theorem PE.mono {X:Cx} {e:Expr} {t t':TE} (h:PE X e t) (k:∀ σ H Q,t' σ H Q->t σ H Q):PE X e t':=fun pins s σ H Q I q=>h pins s σ H Q I (k σ H Q q)
theorem PT.mono {X:Cx} {e:Expr} {t t':TT} (h:PT X e t) (k:∀ σ H Q,t' σ H Q->t σ H Q):PT X e t':=fun pins s σ H Q I q=>h pins s σ H Q I (k σ H Q q)
theorem PW.mono {X:Cx} {e:Expr} {t t':TT} (h:PW X e t) (k:∀ σ H Q,t' σ H Q->t σ H Q):PW X e t':=fun wh pins s σ H Q I q=>h wh pins s σ H Q I (k σ H Q q)
theorem PA.mono {X:Cx} {e:List Expr} {t t':TA} (h:PA X e t) (k:∀ σ H Q,t' σ H Q->t σ H Q):PA X e t':=fun pos pins s σ H Q I q=>h pos pins s σ H Q I (k σ H Q q)
theorem PS.mono {X:Cx} {e:Stmt} {t t':TS} (h:PS X e t) (k:∀ D σ H,t' D σ H->t D σ H):PS X e t':=fun pins s σ H D I q=>h pins s σ H D I (k D σ H q)
theorem PSs.mono {X:Cx} {e:List Stmt} {t t':TS} (h:PSs X e t) (k:∀ D σ H,t' D σ H->t D σ H):PSs X e t':=fun pins s σ H D I q=>h pins s σ H D I (k D σ H q)
def DE (X:Cx) (e:Expr) (ρ:Rho) (w:W):Prop:=∀ H0 Fc,PE X e (tD X.K H0 Fc ρ w)
def DF (X:Cx) (e:Expr) (ρ:Rho) (d:D):Prop:=∀ H0 Fc,PE X e (tDf X.K H0 Fc ρ d)
def DA (X:Cx) (es:List Expr) (ρ:Rho) (ds:List D):Prop:=∀ H0 Fc,PA X es (tDA X.K H0 Fc ρ ds)
def DT (X:Cx) (e:Expr) (ρ:Rho) (b:Bool):Prop:=∀ H0 Fc,PT X e (tDT X.K H0 Fc ρ b)
def DW (X:Cx) (e:Expr) (ρ:Rho) (b:Bool):Prop:=∀ H0 Fc,PW X e (tDT X.K H0 Fc ρ b)
section
variable {X:Cx} {e a b c:Expr} {es:List Expr} {ρ:Rho} {w:W} {pos:Pos}
theorem DE.df (h:DE X e ρ w):DF X e ρ w.d:=fun H0 Fc=>PE.mono (h H0 Fc) fun σ H Q ⟨F,R,k⟩=>
 ⟨F,R,fun v H' F' s R' q=>by
  obtain⟨F2,s2,R2,q2⟩:=RW.freeze R' q
  exact k v H' F2 (s.trans s2) R2 q2⟩
theorem DF.de {d:D} (h:DF X e ρ d):DE X e ρ (.val d):=fun H0 Fc=>PE.mono (h H0 Fc) fun σ H Q ⟨F,R,k⟩=>⟨F,R,fun v H' F' s R' q=>k v H' F' s R' q⟩
theorem DF.var {i:Nat} {x:Str} {d:D} (hN:X.N[i]? = some x) (hv:Vis X.env.scope x) (hd:(x == ("__debug__" : Str))=false) (hcd:(x == ("__classdict__" : Str))=false) (hr:ρ[i]? = some (some d)):DF X (.Name x pos) ρ d:=fun H0 Fc=>
 PE.mono (zdg hN hv hd hcd) fun σ H Q ⟨F,R,k⟩=>by
  obtain⟨v,h1,h2⟩:=R.env i d hr
  exact⟨v,h1,k v H F (Same.refl _) R h2⟩
theorem DF.cint {i:Int} {j}:DF X (.Constant (.int i) j pos) ρ (.int i):=fun H0 Fc=>PE.mono pe_int fun σ H Q ⟨F,R,k⟩=>k _ H F (Same.refl _) R Den.int_mk
theorem DF.cbl {i:Bool} {j}:DF X (.Constant (.bool i) j pos) ρ (.bl i):=fun H0 Fc=>PE.mono pe_bl fun σ H Q ⟨F,R,k⟩=>k _ H F (Same.refl _) R Den.bl_mk
theorem DF.cnon {j}:DF X (.Constant .none j pos) ρ .non:=fun H0 Fc=>PE.mono pe_non fun σ H Q ⟨F,R,k⟩=>k _ H F (Same.refl _) R Den.non_mk
theorem zbm {x y:D} {H0 Fc:Hp} {r:R2} {w:W} {K:PySem.W.Frag}
  (hr:∀ H F σ v u (Q:VK),ER K H0 Fc F H σ ρ->Den K F x v->Den K F y u->(∀ v' H' F',Same F F'->ER K H0 Fc F' H' σ ρ->RW K H0 F' H' w v'->Q v' H')->r v u H Q) :
  ∀ σ H Q,tD K H0 Fc ρ w σ H Q->tOp r (tDf K H0 Fc ρ x) (tDf K H0 Fc ρ y) σ H Q:=fun σ H Q ⟨F,R,k⟩=>
 ⟨F,R,fun v H1 F1 s1 R1 q1=>⟨F1,R1,fun u H2 F2 s2 R2 q2=>hr H2 F2 σ v u Q R2 (q1.mono s2) q2 fun v' H' F' s' R' q'=>k v' H' F' ((s1.trans s2).trans s') R' q'⟩⟩
theorem DE.opI {op:Operator} {C:Int->Int->Prop} {g:Int->Int->V} {x y:Int} {z:D} (ho:OpR X (binaryOp op) (rI C g)) (ha:DF X a ρ (.int x)) (hb:DF X b ρ (.int y)) (hc:C x y) (hz:∀ K F,Den K F z (g x y)) :
  DE X (.BinOp a op b pos) ρ (.val z):=fun H0 Fc=>PE.mono (ybb ho (ha H0 Fc) (hb H0 Fc)) (zbm fun H F σ v u Q R qv qu k=>by
   have e1:=qv.int;have e2:=qu.int;subst e1;subst e2;exact⟨x,y,rfl,rfl,hc,k _ H F (Same.refl _) R (hz _ _)⟩)
theorem DE.opI0 {op:Operator} {g:Int->Int->V} {x y:Int} {z:D} (ho:OpR X (binaryOp op) (rI0 g)) (ha:DF X a ρ (.int x)) (hb:DF X b ρ (.int y)) (hz:∀ K F,Den K F z (g x y)) :
  DE X (.BinOp a op b pos) ρ (.val z):=fun H0 Fc=>PE.mono (ybb ho (ha H0 Fc) (hb H0 Fc)) (zbm fun H F σ v u Q R qv qu k=>by
   have e1:=qv.int;have e2:=qu.int;subst e1;subst e2;exact⟨x,y,rfl,rfl,k _ H F (Same.refl _) R (hz _ _)⟩)
end
end DL
namespace DL
open PySem L2 PyProof.Rows
section
variable {K:PySem.W.Frag} {H0 Fc F H:Hp} {σ:L2.St} {ρ:Rho}
theorem ER.put (R:ER K H0 Fc F H σ ρ) {a:Addr} (o:HO) (hn:H a=none):ER K H0 Fc F (upd H a o) σ ρ/\F a=none/\H0 a=none:=by
 have hF:F a=none:=by
  cases q:F a with
  | none=>rfl
  | some u=>rw [R.sub a u q] at hn;cases hn
 exact⟨⟨R.sub.trans (B6 hn),R.same.trans (B6 hn),R.base,R.new,R.env⟩,hF,R.same.free hn⟩
end
section
variable {K:PySem.W.Frag} {H0 F H:Hp}
theorem RW.v {d:D} {v:V} (h:Den K F d v):RW K H0 F H (.val d) v:=h
theorem RW.int {i:Int}:RW K H0 F H (.val (.int i)) (.int i):=RW.v Den.int_mk
theorem RW.bl {i:Bool}:RW K H0 F H (.val (.bl i)) (.bl i):=RW.v Den.bl_mk
theorem RW.n {l:List D} {a:Addr} {xs:List V} (h1:F a=none) (h2:H0 a=none) (h3:H a=some (.lst xs)) (h4:DenL K F l xs):RW K H0 F H (.new l) (.ref a):=⟨a,xs,rfl,h1,h2,h3,h4⟩
end
section
variable {X:Cx} {e a b c:Expr} {es:List Expr} {ρ:Rho} {w:W} {pos:Pos}
theorem zzj {x:D} {H0 Fc:Hp} {r:V->Hp->VK->Prop} {w:W} {K:PySem.W.Frag}
  (hr:∀ H F σ v (Q:VK),ER K H0 Fc F H σ ρ->Den K F x v->(∀ v' H' F',Same F F'->ER K H0 Fc F' H' σ ρ->RW K H0 F' H' w v'->Q v' H')->r v H Q) :
  ∀ σ H Q,tD K H0 Fc ρ w σ H Q->tUn r (tDf K H0 Fc ρ x) σ H Q:=fun σ H Q ⟨F,R,k⟩=>
 ⟨F,R,fun v H1 F1 s1 R1 q1=>hr H1 F1 σ v Q R1 q1 fun v' H' F' s' R' q'=>k v' H' F' (s1.trans s') R' q'⟩
theorem DE.neg {x:Int} (ha:DF X a ρ (.int x)):DE X (.UnaryOp .USub a pos) ρ (.val (.int (-x))):=fun H0 Fc=>PE.mono (pe_un un_neg (ha H0 Fc)) (zzj fun H F σ v Q R qv k=>by
 have e1:=qv.int;subst e1;exact⟨x,rfl,k _ H F (Same.refl _) R RW.int⟩)
def Ga:Expr->Bool
 | .Starred _ _=>false
 | _=>true
theorem Gf {env:Env} (h:Ga e=true):starEach (e::es) env=(false,eval e env)::starEach es env:=by
 cases e <;> first | rfl | (cases h;done)
theorem zax {env:Env}:∀ {es:List Expr},es.all Ga=true->(backTo pos (starEach es env)).any (·.1)=false
 | [],_=>rfl
 | e::es,h=>by
  rw [Wx,Zl] at h;rw [Gf h.1];show (false || (backTo pos (starEach es env)).any (·.1))=false;rw [zax h.2];rfl
theorem DA.nil:DA X [] ρ []:=fun H0 Fc=>PA.mono zqo fun σ H Q ⟨F,R,k⟩=>k [] H F (Same.refl _) R DenL.nil
theorem DA.cons {d:D} {ds:List D} (ha:DF X e ρ d) (hr:DA X es ρ ds) (hs:Ga e=true):DA X (e::es) ρ (d::ds):=fun H0 Fc=>
 PA.mono (zhj (ha H0 Fc) (hr H0 Fc) (Gf hs)) fun σ H Q ⟨F,R,k⟩=>
  ⟨F,R,fun v H1 F1 s1 R1 q1=>⟨F1,R1,fun vs H2 F2 s2 R2 q2=>k (v::vs) H2 F2 (s1.trans s2) R2 (DenL.cons (q1.mono s2) q2)⟩⟩
theorem DE.tup {ds:List D} {x1} (ha:DA X es ρ ds) (hl:ds.length<=sizeLine):DE X (.Tuple es x1 pos) ρ (.val (.tup ds)):=fun H0 Fc=>PE.mono (pe_tup (ha H0 Fc)) fun σ H Q ⟨F,R,k⟩=>
 ⟨F,R,fun vs H1 F1 s1 R1 q1=>⟨by rw [q1.length];exact hl,fun p hp=>by
  obtain⟨R2,s2⟩:=R1.lay (.tup vs) hp
  exact k _ _ _ (s1.trans s2) R2 (RW.v (Den.tup_mk (SqT.of Gj) (q1.mono s2)))⟩⟩
theorem DE.lst {ds:List D} (ha:DA X es ρ ds) (hl:ds.length<=sizeLine):DE X (.List es pos) ρ (.new ds):=fun H0 Fc=>PE.mono (pe_lst (ha H0 Fc)) fun σ H Q ⟨F,R,k⟩=>
 ⟨F,R,fun vs H1 F1 s1 R1 q1=>⟨by rw [q1.length];exact hl,fun p hp=>by
  obtain⟨R2,hF,h0⟩:=R1.put (.lst vs) hp
  exact k _ _ _ s1 R2 (RW.n hF h0 Gj q1)⟩⟩
def zbi:Expr->Bool
 | .Slice _ _ _ _=>false
 | _=>true
theorem zqh (h:zbi b=true):ztj b:=fun o i=>by
 cases b <;> first | rfl | (cases h;done)
theorem ztc {K:PySem.W.Frag} {F:Hp} {l:List D} {xs:List V} {i:Int} {d:D} (h:DenL K F l xs) (e:atI l i=some d):∃ v,atI xs i=some v/\Den K F d v:=by
 unfold atI at e |-;rw [h.length];cases q:ixN l.length i with
 | none=>rw [q] at e;cases e
 | some j=>
  rw [q] at e;exact h.get e
theorem DE.ixT {l:List D} {i:Int} {d:D} (ha:DF X a ρ (.tup l)) (hb:DF X b ρ (.int i)) (hs:zbi b=true) (hi:atI l i=some d):DE X (.Subscript a b pos) ρ (.val d):=fun H0 Fc=>
 PE.mono (pe_ix ix_tup (ha H0 Fc) (hb H0 Fc) (zqh hs)) (zbm fun H F σ v u Q R qv qu k=>by
  obtain⟨p,xs,e1,sq,r⟩:=qv.tup
  have e2:=qu.int;subst e1;subst e2;obtain⟨y,h1,h2⟩:=ztc r hi
  exact⟨p,xs,i,y,rfl,rfl,Same.tup R.sub sq,h1,k _ H F (Same.refl _) R (RW.v h2)⟩)
theorem DE.ixL {l:List D} {i:Int} {d:D} (ha:DF X a ρ (.lst l)) (hb:DF X b ρ (.int i)) (hs:zbi b=true) (hi:atI l i=some d):DE X (.Subscript a b pos) ρ (.val d):=fun H0 Fc=>
 PE.mono (pe_ix ycf (ha H0 Fc) (hb H0 Fc) (zqh hs)) (zbm fun H F σ v u Q R qv qu k=>by
  obtain⟨p,xs,e1,sq,r⟩:=qv.lst
  have e2:=qu.int;subst e1;subst e2;obtain⟨y,h1,h2⟩:=ztc r hi
  exact⟨p,xs,i,y,rfl,rfl,R.sub.seq sq,h1,k _ H F (Same.refl _) R (RW.v h2)⟩)
def DO (X:Cx) (e:Option Expr) (ρ:Rho) (o:Option Int):Prop:=∀ H0 Fc,PO X e (fun σ H Q=>∃ F,ER X.K H0 Fc F H σ ρ/\∀ H' F',Same F F'->ER X.K H0 Fc F' H' σ ρ->Q o H')
theorem DO.none:DO X none ρ none:=fun H0 Fc pins s σ H Q I ⟨F,R,k⟩=>yaz pins s σ H Q I (k H F (Same.refl _) R)
theorem DO.some {i:Int} (h:DF X e ρ (.int i)):DO X (some e) ρ (some i):=fun H0 Fc pins s σ H Q I ⟨F,R,k⟩=>yay (h H0 Fc) pins s σ H Q I
 ⟨F,R,fun v H' F' s' R' q'=>⟨i,q'.int,k H' F' s' R'⟩⟩
def cutD (l:List D) (lo hi:Option Int):List D:=(l.drop (HT.sIx l.length 0 lo)).take (HT.sIx l.length l.length hi-HT.sIx l.length 0 lo)
theorem zwg {K:PySem.W.Frag} {F:Hp} {l:List D} {xs:List V} {lo hi:Option Int} (h:DenL K F l xs):DenL K F (cutD l lo hi) (cutV xs lo hi):=by
 unfold cutD cutV;rw [h.length];exact (h.drop _).take _
theorem DE.slL {l:List D} {lo hi:Option Expr} {i j:Option Int} {p2:Pos} (ha:DF X a ρ (.lst l)) (hl:DO X lo ρ i) (hh:DO X hi ρ j):DE X (.Subscript a (.Slice lo hi none p2) pos) ρ (.new (cutD l i j)):=fun H0 Fc=>
 PE.mono (zva yab (ha H0 Fc) (hl H0 Fc) (hh H0 Fc)) fun σ H Q ⟨F,R,k⟩=>⟨F,R,fun v H1 F1 s1 R1 q1=>⟨F1,R1,fun H2 F2 s2 R2=>⟨F2,R2,fun H3 F3 s3 R3=>by
  obtain⟨p,xs,e1,sq,r⟩:=q1.lst
  subst e1;refine⟨p,xs,rfl,R3.sub.seq (s3.seq (s2.seq sq)),fun q hq=>?_⟩
  obtain⟨R4,hF,h0⟩:=R3.put (.lst (cutV xs i j)) hq
  exact k _ _ _ (s1.trans (s2.trans s3)) R4 (RW.n hF h0 Gj (zwg ((r.mono s2).mono s3)))⟩⟩⟩
def spD (K:PySem.W.Frag) (n:Nat) (φ:List D->Option W):Sp:=fun vs H Q _=>∃ F ds w,Same F H/\DenL K F ds vs/\ds.length=n/\φ ds=some w /\
 ∀ v H' F',Same H H'->Same F F'->Same F' H'->(∀ a o,F' a=some o->F a=some o\/H a=none)->RW K H F' H' w v->Q v H'
def zzg (X:Cx) (x:Str) (n:Nat) (φ:List D->Option W):Prop:=∃ (k:Nat) (f:Addr) (fd:FuncData) (ps:List Str),
 FnOk X.prog X.w X.K X.mg X.base CX0 k f fd ps (spD X.K n φ)/\Room k X.A/\X.mg x=some (.ref f)/\PySem.W.keepIn X.K (.ref f)=true/\Binds X.K fd ps []
theorem ER.called {K:PySem.W.Frag} {H0 Fc F H F' H':Hp} {σ:L2.St} {ρ:Rho} (R:ER K H0 Fc F H σ ρ) (s1:Same H H') (s2:Same F F') (s3:Same F' H') (hn:∀ a o,F' a=some o->F a=some o\/H a=none):ER K H0 Fc F' H' σ ρ:=
 ⟨s3,R.same.trans s1,R.base.trans s2,fun a o e=>(hn a o e).elim (R.new a o) fun z=>.inr (R.same.free z),fun i d e=>by
  obtain⟨v,h1,h2⟩:=R.env i d e
  exact⟨v,h1,h2.mono s2⟩⟩
theorem DE.call {x:Str} {p:Pos} {n:Nat} {φ:List D->Option W} {ds:List D} (hc:zzg X x n φ) (hg:Gl X x) (hdb:(x == ("__debug__" : Str))=false) (ha:DA X (e::es) ρ ds) (hn:ds.length=n) (hw:φ ds=some w) (hs:Ga e=true) (hss:es.all Ga=true) :
  DE X (.Call (.Name x p) (e::es) [] pos) ρ w:=fun H0 Fc=>by
 obtain⟨k,f,fd,ps,G,hr,hm,hk,hb⟩:=hc
 refine PE.mono (ybd (E:=E0) G hr hg hm hk hb .nil pass0 (ha H0 Fc) hdb (Gf hs) (zax hss)) fun σ H Q ⟨F,R,k⟩=>⟨F,R,fun vs H1 F1 s1 R1 q1=>?_⟩
 refine⟨F1,ds,w,R1.sub,by rw [Qv];exact q1,hn,hw,fun v H' F' a1 a2 a3 a4 a5=>k v H' F' (s1.trans a2) (R1.called a1 a2 a3 a4) ?_⟩
 cases w with
 | val d=>exact a5
 | new l=>
  obtain⟨a,xs,e1,b1,b2,b3,b4⟩:=a5
  exact⟨a,xs,e1,b1,R1.same.free b2,b3,b4⟩
theorem DT.val {e:Expr} {k:Bool} (h:DF X e ρ (.bl k)) (he:∀ whole,isTrue e X.env whole=(do let v <- whole;standAt e.pos;holding [v] (truthy v))):DT X e ρ k:=fun H0 Fc=>
 PT.mono (pt_val (h H0 Fc) he) fun σ H Q ⟨F,R,q⟩=>⟨F,R,fun v H1 F1 s1 R1 q1=>⟨k,q1.bl,q H1 F1 s1 R1⟩⟩
theorem DT.not {k:Bool} (h:DT X a ρ k):DT X (.UnaryOp .Not a pos) ρ (!k):=fun H0 Fc=>PT.mono (pt_not (h H0 Fc)) fun σ H Q ⟨F,R,q⟩=>⟨F,R,fun H1 F1 s1 R1=>q H1 F1 s1 R1⟩
theorem DW.dt {k:Bool} (h:DW X e ρ k):DT X e ρ k:=fun H0 Fc=>(h H0 Fc).pt
theorem DW.and1 {k:Bool} (h:DT X a ρ k):DW X (.BoolOp .And [a] pos) ρ k:=fun H0 Fc=>yau (h H0 Fc)
theorem DW.or1 {k:Bool} (h:DT X a ρ k):DW X (.BoolOp .Or [a] pos) ρ k:=fun H0 Fc=>pw_or1 (h H0 Fc)
theorem DW.andT {k:Bool} (h:DT X a ρ true) (h2:DW X (.BoolOp .And (b::es) pos) ρ k):DW X (.BoolOp .And (a::b::es) pos) ρ k:=fun H0 Fc=>PW.mono (zxs (h H0 Fc) (h2 H0 Fc)) fun σ H Q ⟨F,R,q⟩=>
 ⟨F,R,fun H1 F1 s1 R1=>iteT (⟨F1,R1,fun H2 F2 s2 R2=>q H2 F2 (s1.trans s2) R2⟩)⟩
theorem DW.andF {tb} (h:DT X a ρ false) (h2:PW X (.BoolOp .And (b::es) pos) tb):DW X (.BoolOp .And (a::b::es) pos) ρ false:=fun H0 Fc=>PW.mono (zxs (h H0 Fc) h2) fun σ H Q ⟨F,R,q⟩=>
 ⟨F,R,fun H1 F1 s1 R1=>iteF (q H1 F1 s1 R1)⟩
theorem DW.orF {k:Bool} (h:DT X a ρ false) (h2:DW X (.BoolOp .Or (b::es) pos) ρ k):DW X (.BoolOp .Or (a::b::es) pos) ρ k:=fun H0 Fc=>PW.mono (pw_or (h H0 Fc) (h2 H0 Fc)) fun σ H Q ⟨F,R,q⟩=>
 ⟨F,R,fun H1 F1 s1 R1=>iteF (⟨F1,R1,fun H2 F2 s2 R2=>q H2 F2 (s1.trans s2) R2⟩)⟩
theorem DW.orT {tb} (h:DT X a ρ true) (h2:PW X (.BoolOp .Or (b::es) pos) tb):DW X (.BoolOp .Or (a::b::es) pos) ρ true:=fun H0 Fc=>PW.mono (pw_or (h H0 Fc) h2) fun σ H Q ⟨F,R,q⟩=>
 ⟨F,R,fun H1 F1 s1 R1=>iteT (q H1 F1 s1 R1)⟩
theorem zmf:PW X e (fun _ _ _=>False):=fun _ _ _ _ _ _ _ h=>h.elim
theorem zmj:PE X e (fun _ _ _=>False):=fun _ _ _ _ _ _ h=>h.elim
theorem DE.not {k:Bool} (h:DF X a ρ (.bl k)):DE X (.UnaryOp .Not a pos) ρ (.val (.bl (!k))):=fun H0 Fc=>PE.mono (pe_not (h H0 Fc)) fun σ H Q ⟨F,R,q⟩=>
 ⟨F,R,fun v H1 F1 s1 R1 q1=>⟨k,q1.bl,q _ H1 F1 s1 R1 RW.bl⟩⟩
theorem DE.one {op} (h:DE X a ρ w):DE X (.BoolOp op [a] pos) ρ w:=fun H0 Fc=>pe_one (h H0 Fc)
theorem DE.andT (h:DF X a ρ (.bl true)) (h2:DE X (.BoolOp .And (b::es) pos) ρ w):DE X (.BoolOp .And (a::b::es) pos) ρ w:=fun H0 Fc=>PE.mono (zxz (h H0 Fc) (h2 H0 Fc)) fun σ H Q ⟨F,R,q⟩=>
 ⟨F,R,fun v H1 F1 s1 R1 q1=>⟨true,q1.bl,iteT (⟨F1,R1,fun v H2 F2 s2 R2 q2=>q v H2 F2 (s1.trans s2) R2 q2⟩)⟩⟩
theorem DE.andF (h:DF X a ρ (.bl false)):DE X (.BoolOp .And (a::b::es) pos) ρ (.val (.bl false)):=fun H0 Fc=>PE.mono (zxz (h H0 Fc) zmj) fun σ H Q ⟨F,R,q⟩=>
 ⟨F,R,fun v H1 F1 s1 R1 q1=>⟨false,q1.bl,iteF (q _ H1 F1 s1 R1 RW.bl)⟩⟩
theorem DE.orF (h:DF X a ρ (.bl false)) (h2:DE X (.BoolOp .Or (b::es) pos) ρ w):DE X (.BoolOp .Or (a::b::es) pos) ρ w:=fun H0 Fc=>PE.mono (pe_or (h H0 Fc) (h2 H0 Fc)) fun σ H Q ⟨F,R,q⟩=>
 ⟨F,R,fun v H1 F1 s1 R1 q1=>⟨false,q1.bl,iteF (⟨F1,R1,fun v H2 F2 s2 R2 q2=>q v H2 F2 (s1.trans s2) R2 q2⟩)⟩⟩
theorem DE.orT (h:DF X a ρ (.bl true)):DE X (.BoolOp .Or (a::b::es) pos) ρ (.val (.bl true)):=fun H0 Fc=>PE.mono (pe_or (h H0 Fc) zmj) fun σ H Q ⟨F,R,q⟩=>
 ⟨F,R,fun v H1 F1 s1 R1 q1=>⟨true,q1.bl,iteT (q _ H1 F1 s1 R1 RW.bl)⟩⟩
def zag (X:Cx) (op:CmpOp) (x y:D) (k:Bool):Prop:=∃ r,OpR X (compareOp op) r /\
 ∀ (H F:Hp) (v u:V) (Q:VK),Same F H->Den X.K F x v->Den X.K F y u->Q (.bl k) H->r v u H Q
theorem DE.cmp {op:CmpOp} {x y:D} {k:Bool} (hc:zag X op x y k) (ha:DF X a ρ x) (hb:DF X b ρ y) (hm:behindInMarks op b=false):DE X (.Compare a [op] [b] pos) ρ (.val (.bl k)):=fun H0 Fc=>by
 obtain⟨r,ho,hr⟩:=hc
 exact PE.mono (ybc ho (ha H0 Fc) (hb H0 Fc) hm) (zbm fun H F σ v u Q R qv qu q=>hr H F v u Q R.sub qv qu (q _ H F (Same.refl _) R RW.bl))
theorem DT.cmp {op:CmpOp} {x y:D} {k:Bool} (hc:zag X op x y k) (ha:DF X a ρ x) (hb:DF X b ρ y) (hm:behindInMarks op b=false):DT X (.Compare a [op] [b] pos) ρ k:=fun H0 Fc=>by
 obtain⟨r,ho,hr⟩:=hc
 refine PT.mono (yav ho (ha H0 Fc) (hb H0 Fc) hm) fun σ H Q ⟨F,R,q⟩=>⟨F,R,fun v H1 F1 s1 R1 q1=>⟨F1,R1,fun u H2 F2 s2 R2 q2=>?_⟩⟩
 exact hr H2 F2 v u _ R2.sub (q1.mono s2) q2 ⟨k,rfl,q H2 F2 (s1.trans s2) R2⟩
theorem cmpI {op:CmpOp} {g:Int->Int->Bool} {x y:Int} (ho:OpR X (compareOp op) (rI0 fun i j=>.bl (g i j))):zag X op (.int x) (.int y) (g x y):=
 ⟨_,ho,fun H F v u Q s qv qu q=>⟨x,y,qv.int,qu.int,q⟩⟩
theorem cmp_lt {x y:Int}:zag X .Lt (.int x) (.int y) (decide (x<y)):=cmpI op_lt
theorem cmp_le {x y:Int}:zag X .LtE (.int x) (.int y) (decide (x<=y)):=cmpI op_le
theorem cmp_gt {x y:Int}:zag X .Gt (.int x) (.int y) (decide (y<x)):=cmpI op_gt
theorem cmp_ge {x y:Int}:zag X .GtE (.int x) (.int y) (decide (y<=x)):=cmpI op_ge
theorem ydi {x y:Int}:zag X .Eq (.int x) (.int y) (decide (x=y)):=⟨_,op_eq,fun H F v u Q s qv qu q=>by
 have e1:=qv.int;have e2:=qu.int;subst e1;subst e2;exact⟨rfl,by rw [zhx,U1];exact q⟩⟩
theorem yde {x y:Int}:zag X .NotEq (.int x) (.int y) (!decide (x=y)):=⟨_,op_ne,fun H F v u Q s qv qu q=>by
 have e1:=qv.int;have e2:=qu.int;subst e1;subst e2;exact⟨rfl,by rw [zhx,U1];exact q⟩⟩
theorem ydj {x y:Bool}:zag X .Eq (.bl x) (.bl y) (x == y):=⟨_,op_eq,fun H F v u Q s qv qu q=>by
 have e1:=qv.bl;have e2:=qu.bl;subst e1;subst e2;exact⟨rfl,by rw [znh];exact q⟩⟩
theorem ydf {x y:Bool}:zag X .NotEq (.bl x) (.bl y) (!(x == y)):=⟨_,op_ne,fun H F v u Q s qv qu q=>by
 have e1:=qv.bl;have e2:=qu.bl;subst e1;subst e2;exact⟨rfl,by rw [znh];exact q⟩⟩
def zdq:D->Bool
 | .non=>true
 | _=>false
theorem zjq {K:PySem.W.Frag} {F:Hp} {d:D} {v:V} (h:Den K F d v):decide (v=V.non)=zdq d:=by
 cases d with
 | non=>rw [h.non];rfl
 | bl b=>rw [h.bl];rfl
 | int i=>rw [h.int];rfl
 | tup l=>obtain⟨a,xs,e,_⟩:=h.tup;rw [e];rfl
 | lst l=>obtain⟨a,xs,e,_⟩:=h.lst;rw [e];rfl
 | exc x=>obtain⟨a,C,e,_⟩:=h.exc;rw [e];rfl
theorem ydg {x:D}:zag X .Is x .non (zdq x):=⟨_,op_isN,fun H F v u Q s qv qu q=>⟨qu.non,by rw [zjq qv];exact q⟩⟩
theorem zwk {x:D}:zag X .IsNot x .non (!zdq x):=⟨_,ybh,fun H F v u Q s qv qu q=>⟨qu.non,by rw [zjq qv];exact q⟩⟩
def zcs (X:Cx) (f:Value) (ds:List D) (w:W):Prop:=∃ r,zde X f r /\
 ∀ (H0 Fc H F:Hp) (σ:L2.St) (ρ:Rho) (vs:List V) (Q:VK),ER X.K H0 Fc F H σ ρ->DenL X.K F ds vs->(∀ v' H' F',Same F F'->ER X.K H0 Fc F' H' σ ρ->RW X.K H0 F' H' w v'->Q v' H')->r vs H Q
theorem DE.blt {x:Str} {id:String} {p:Pos} {ds:List D} (hc:zcs X (.builtin id) ds w) (hg:Gl X x) (hm:X.mg x=none) (hv:bootBuiltins x=some (.builtin id)) (hn:x ≠ "__name__") (hdb:(x == ("__debug__" : Str))=false) (ha:DA X (e::es) ρ ds) (hs:Ga e=true) (hss:es.all Ga=true) :
  DE X (.Call (.Name x p) (e::es) [] pos) ρ w:=fun H0 Fc=>by
 obtain⟨r,hr,hq⟩:=hc
 refine PE.mono (zmk hr hg hm hv (ha H0 Fc) hn hdb (Gf hs) (zax hss)) fun σ H Q ⟨F,R,k⟩=>⟨F,R,fun vs H1 F1 s1 R1 q1=>?_⟩
 exact hq H0 Fc H1 F1 σ ρ vs Q R1 q1 fun v' H' F' s' R' q'=>k v' H' F' (s1.trans s') R' q'
theorem DE.ty {x:Str} {id:String} {p:Pos} {ds:List D} (hc:zcs X (.type id) ds w) (hg:Gl X x) (hm:X.mg x=none) (hv:bootBuiltins x=some (.type id)) (hn:x ≠ "__name__") (hdb:(x == ("__debug__" : Str))=false) (ha:DA X (e::es) ρ ds) (hs:Ga e=true) (hss:es.all Ga=true) :
  DE X (.Call (.Name x p) (e::es) [] pos) ρ w:=fun H0 Fc=>by
 obtain⟨r,hr,hq⟩:=hc
 refine PE.mono (zqn hr hg hm hv (ha H0 Fc) hn hdb (Gf hs) (zax hss)) fun σ H Q ⟨F,R,k⟩=>⟨F,R,fun vs H1 F1 s1 R1 q1=>?_⟩
 exact hq H0 Fc H1 F1 σ ρ vs Q R1 q1 fun v' H' F' s' R' q'=>k v' H' F' (s1.trans s') R' q'
theorem DenL.one {K:PySem.W.Frag} {F:Hp} {d:D} {vs:List V} (h:DenL K F [d] vs):∃ v,vs=[v]/\Den K F d v:=by
 obtain⟨v,r,e,q,z⟩:=h.inv_cons
 rw [z.inv_nil] at e;exact⟨v,e,q⟩
theorem DenL.two {K:PySem.W.Frag} {F:Hp} {d d':D} {vs:List V} (h:DenL K F [d,d'] vs):∃ v v',vs=[v,v']/\Den K F d v/\Den K F d' v':=by
 obtain⟨v,r,e,q,z⟩:=h.inv_cons
 obtain⟨v',e',q'⟩:=z.one
 rw [e'] at e;exact⟨v,v',e,q,q'⟩
theorem ydq {i:Int}:zcs X (.builtin "abs") [.int i] (.val (.int (if i<0 then -i else i))):=⟨_,zwn,fun H0 Fc H F σ ρ vs Q R q k=>by
 obtain⟨v,e,q⟩:=q.one
 rw [q.int] at e;exact⟨i,e,k _ H F (Same.refl _) R RW.int⟩⟩
theorem zwv {l:List D}:zcs X (.builtin "len") [.lst l] (.val (.int l.length)):=⟨_,zdk,fun H0 Fc H F σ ρ vs Q R q k=>by
 obtain⟨v,e,q⟩:=q.one
 obtain⟨p,xs,e1,sq,r⟩:=q.lst
 rw [e1] at e;exact⟨p,xs,e,.inl (R.sub.seq sq),by rw [r.length];exact k _ H F (Same.refl _) R RW.int⟩⟩
theorem zwu {l:List D}:zcs X (.builtin "len") [.tup l] (.val (.int l.length)):=⟨_,zdk,fun H0 Fc H F σ ρ vs Q R q k=>by
 obtain⟨v,e,q⟩:=q.one
 obtain⟨p,xs,e1,sq,r⟩:=q.tup
 rw [e1] at e;exact⟨p,xs,e,.inr (Same.tup R.sub sq),by rw [r.length];exact k _ H F (Same.refl _) R RW.int⟩⟩
end
end DL
namespace DL
open PySem L2 PyProof.Rows
mutual
def lf:D->Bool
 | .non=>true
 | .bl _=>true
 | .int _=>true
 | .tup l=>lfL l
 | .lst _=>false
 | .exc _=>false
def lfL:List D->Bool
 | []=>true
 | d::l=>lf d && lfL l
end
def lfW:W->Bool
 | .val d=>lf d
 | .new l=>lfL l
mutual
theorem Den.shrink {K:PySem.W.Frag} {F F':Hp} (s:∀ a xs,SqT K F a xs->SqT K F' a xs):∀ (d:D) {v:V},lf d=true->Den K F d v->Den K F' d v
 | .non,_,_,h=>by simpa only [Den] using h
 | .bl _,_,_,h=>by simpa only [Den] using h
 | .int _,_,_,h=>by simpa only [Den] using h
 | .tup l,_,f,h=>by
  obtain⟨a,xs,e,q,r⟩:=h.tup
  subst e;exact Den.tup_mk (s _ _ q) (DenL.shrink s l (by simpa only [lf] using f) r)
 | .lst l,_,f,h=>by simp only [lf] at f;cases f
 | .exc l,_,f,h=>by simp only [lf] at f;cases f
theorem DenL.shrink {K:PySem.W.Frag} {F F':Hp} (s:∀ a xs,SqT K F a xs->SqT K F' a xs):∀ (l:List D) {xs:List V},lfL l=true->DenL K F l xs->DenL K F' l xs
 | [],_,_,h=>by simpa only [DenL] using h
 | d::l,_,f,h=>by
  simp only [lfL,Zl] at f;obtain⟨v,vs,e,q,r⟩:=h.inv_cons
  subst e;exact DenL.cons (Den.shrink s d f.1 q) (DenL.shrink s l f.2 r)
end
inductive B where
 | sh (d:D) | ow (l:List D)
def B.d:B->D
 | .sh d=>d
 | .ow l=>.lst l
def W.b:W->B
 | .val d=>.sh d
 | .new l=>.ow l
abbrev RhoS:=List (Option B)
def view (ρ:RhoS):Rho:=ρ.map (Option.map B.d)
def frz (ρ:RhoS):RhoS:=ρ.map (Option.map fun b=>.sh b.d)
theorem ztp {ρ:RhoS} {i:Nat} {d:D} (h:(view ρ)[i]? = some (some d)):∃ b,ρ[i]? = some (some b)/\b.d=d:=by
 unfold view at h;rw [Zi] at h;cases q:ρ[i]? with
 | none=>rw [q] at h;cases h
 | some o=>
  rw [q] at h;cases o with
  | none=>cases h
  | some b=>exact⟨b,rfl,by simpa using h⟩
theorem zhu {ρ:RhoS} {i:Nat} {b:B} (h:(frz ρ)[i]? = some (some b)):∃ c,ρ[i]? = some (some c)/\b=.sh c.d:=by
 unfold frz at h;rw [Zi] at h;cases q:ρ[i]? with
 | none=>rw [q] at h;cases h
 | some o=>
  rw [q] at h;cases o with
  | none=>cases h
  | some c=>exact⟨c,rfl,by simpa using h.symm⟩
structure SR (K:PySem.W.Frag) (H0 Fc F H:Hp) (σ:L2.St) (ρ:RhoS):Prop where
 sub:Same F H
 same:Same H0 H
 base:Same Fc F
 new:∀ a o,F a=some o->Fc a=some o\/H0 a=none
 env:∀ (i:Nat) d,ρ[i]? = some (some (.sh d))->∃ v,σ[i]? = some (some v)/\Den K F d v
 own:∀ (i:Nat) l,ρ[i]? = some (some (.ow l))->∃ a xs,σ[i]? = some (some (.ref a))/\F a=none/\H0 a=none/\H a=some (.lst xs)/\DenL K F l xs
 dis:∀ (i j:Nat) l m a,ρ[i]? = some (some (.ow l))->ρ[j]? = some (some (.ow m))->σ[i]? = some (some (.ref a))->σ[j]? = some (some (.ref a))->i=j
 len:σ.length=ρ.length
def Owned (σ:L2.St) (ρ:RhoS) (a:Addr):Prop:=∃ (i:Nat) (l:List D),ρ[i]? = some (some (.ow l))/\σ[i]? = some (some (.ref a))
section
variable {K:PySem.W.Frag} {H0 Fc F H:Hp} {σ:L2.St} {ρ:RhoS}
theorem SR.owned_none (S:SR K H0 Fc F H σ ρ) {a:Addr} (h:Owned σ ρ a):F a=none/\H0 a=none/\∃ xs,H a=some (.lst xs):=by
 obtain⟨i,l,h1,h2⟩:=h
 obtain⟨b,xs,e,p,q,r,_⟩:=S.own i l h1
 rw [h2] at e;cases e;exact⟨p,q,xs,r⟩
open Classical in
def borrow (F H:Hp) (σ:L2.St) (ρ:RhoS):Hp:=fun a=>if Owned σ ρ a then H a else F a
open Classical in
theorem SR.borrow (S:SR K H0 Fc F H σ ρ):Same F (borrow F H σ ρ)/\ER K H0 Fc (borrow F H σ ρ) H σ (view ρ):=by
 have s:Same F (DL.borrow F H σ ρ):=fun a o e=>by
  unfold DL.borrow;rw [if_neg (fun z=>by rw [(S.owned_none z).1] at e;cases e)];exact e
 refine⟨s,⟨fun a o e=>?_,S.same,S.base.trans s,fun a o e=>?_,fun i d e=>?_⟩⟩
 ·unfold DL.borrow at e;by_cases hz:Owned σ ρ a
  ·rw [if_pos hz] at e;exact e
  ·rw [if_neg hz] at e;exact S.sub a o e
 ·unfold DL.borrow at e;by_cases hz:Owned σ ρ a
  ·exact .inr (S.owned_none hz).2.1
  ·rw [if_neg hz] at e;exact S.new a o e
 ·obtain⟨b,h1,h2⟩:=ztp e
  subst h2;cases b with
  | sh d=>
   obtain⟨v,p,q⟩:=S.env i d h1
   exact⟨v,p,q.mono s⟩
  | ow l=>
   obtain⟨a,xs,p,_,_,r,q⟩:=S.own i l h1
   refine⟨_,p,Den.lst_mk (SqL.of ?_) (q.mono s)⟩
   unfold DL.borrow;rw [if_pos ⟨i,l,h1,p⟩];exact r
open Classical in
theorem SR.back (S:SR K H0 Fc F H σ ρ) {F2 H2:Hp} {w:W} {v:V} (s:Same (DL.borrow F H σ ρ) F2) (R:ER K H0 Fc F2 H2 σ (view ρ)) (q:RW K H0 F2 H2 w v) (f:lfW w=true) :
  ∃ F3,Same F F3/\SR K H0 Fc F3 H2 σ ρ/\RW K H0 F3 H2 w v:=by
 have hown:∀ {a},Owned σ ρ a->∃ xs,F2 a=some (.lst xs):=fun {a} z=>by
  obtain⟨_,_,xs,r⟩:=S.owned_none z
  exact⟨xs,s a _ (by unfold DL.borrow;rw [if_pos z];exact r)⟩
 have sF:Same F (fun a=>if Owned σ ρ a then none else F2 a):=fun a o e=>by
  have hz:¬ Owned σ ρ a:=fun z=>by rw [(S.owned_none z).1] at e;cases e
  show (if Owned σ ρ a then none else F2 a)=some o;rw [if_neg hz];exact s a o (S.borrow.1 a o e)
 have hsub:∀ a o,(if Owned σ ρ a then none else F2 a)=some o->F2 a=some o:=fun a o e=>by
  by_cases hz:Owned σ ρ a
  ·rw [if_pos hz] at e;cases e
  ·rw [if_neg hz] at e;exact e
 have tups:∀ a xs,SqT K F2 a xs->SqT K (fun a=>if Owned σ ρ a then none else F2 a) a xs:=fun a xs h=>by
  rcases h with h | h
  ·refine .inl ?_;have hz:¬ Owned σ ρ a:=fun z=>by
    obtain⟨ys,e⟩:=hown z
    rcases h with h | ⟨o,h⟩
    ·rw [e] at h;cases h
    ·rw [e] at h;cases h
   rcases h with h | ⟨o,h⟩
   ·exact .inl (by show (if Owned σ ρ a then none else F2 a)=_;rw [if_neg hz];exact h)
   ·exact .inr ⟨o,by show (if Owned σ ρ a then none else F2 a)=_;rw [if_neg hz];exact h⟩
  ·exact .inr h
 refine⟨_,sF,⟨fun a o e=>R.sub a o (hsub a o e),R.same,S.base.trans sF,fun a o e=>R.new a o (hsub a o e),fun i d e=>?_,fun i l e=>?_,S.dis,S.len⟩,?_⟩
 ·obtain⟨v,p,q⟩:=S.env i d e
  exact⟨v,p,q.mono sF⟩
 ·obtain⟨a,xs,p,p1,p2,p3,p4⟩:=S.own i l e
  have hz:Owned σ ρ a:=⟨i,l,e,p⟩;refine⟨a,xs,p,if_pos hz,p2,?_,p4.mono sF⟩
  exact R.sub _ _ (s a _ (by unfold DL.borrow;rw [if_pos hz];exact p3))
 ·cases w with
  | val d=>exact Den.shrink tups d f q
  | new l=>
   obtain⟨a,xs,e,p1,p2,p3,p4⟩:=q
   subst e;refine RW.n ?_ p2 p3 (DenL.shrink tups l f p4);by_cases hz:Owned σ ρ a
   ·exact if_pos hz
   ·exact (if_neg hz).trans p1
theorem SR.freeze (S:SR K H0 Fc F H σ ρ) {F2 H2:Hp} (s:Same (DL.borrow F H σ ρ) F2) (R:ER K H0 Fc F2 H2 σ (view ρ)):Same F F2/\SR K H0 Fc F2 H2 σ (frz ρ):=by
 refine⟨S.borrow.1.trans s,R.sub,R.same,R.base,R.new,fun i d e=>?_,fun i l e=>?_,fun i j l m a e=>?_,?_⟩
 ·obtain⟨c,h1,h2⟩:=zhu e
  cases h2;refine R.env i c.d ?_;unfold view;rw [Zi,h1];rfl
 ·obtain⟨c,h1,h2⟩:=zhu e
  cases h2
 ·obtain⟨c,h1,h2⟩:=zhu e
  cases h2
 ·rw [S.len];unfold frz;rw [Zc]
def after (w:W) (ρ:RhoS):RhoS:=if lfW w=true then ρ else frz ρ
theorem SR.after (S:SR K H0 Fc F H σ ρ) {F2 H2:Hp} {w:W} {v:V} (s:Same (DL.borrow F H σ ρ) F2) (R:ER K H0 Fc F2 H2 σ (view ρ)) (q:RW K H0 F2 H2 w v) :
  ∃ F3,Same F F3/\SR K H0 Fc F3 H2 σ (DL.after w ρ)/\RW K H0 F3 H2 w v:=by
 unfold DL.after;by_cases f:lfW w=true
 ·rw [if_pos f];exact S.back s R q f
 ·rw [if_neg f];obtain⟨a,b⟩:=S.freeze s R
  exact⟨F2,a,b,q⟩
theorem SR.bind (S:SR K H0 Fc F H σ ρ) {i:Nat} {w:W} {v:V} (q:RW K H0 F H w v) (hi:i<ρ.length) (hd:∀ l,w=.new l->∀ a,v=.ref a -> ¬ Owned σ ρ a):SR K H0 Fc F H (σ.set i (some v)) (ρ.set i (some w.b)):=by
 have hiσ:i<σ.length:=by rw [S.len];exact hi
 have gs:(σ.set i (some v))[i]? = some (some v):=by rw [Wd hiσ]
 have gr:(ρ.set i (some w.b))[i]? = some (some w.b):=by rw [Wd hi]
 have ns:∀ {j},j≠i->(σ.set i (some v))[j]? = σ[j]?:=fun h=>Y9 (Wh h)
 have nr:∀ {j},j≠i->(ρ.set i (some w.b))[j]? = ρ[j]?:=fun h=>Y9 (Wh h)
 refine⟨S.sub,S.same,S.base,S.new,fun j d e=>?_,fun j l e=>?_,fun j k l m a e1 e2 e3 e4=>?_,by rw [Qe,Qe];exact S.len⟩
 ·by_cases hj:j=i
  ·subst hj;rw [gr] at e;refine⟨v,gs,?_⟩
   cases w with
   | val d'=>cases e;exact q
   | new l=>cases e
  ·rw [nr hj] at e;rw [ns hj];exact S.env j d e
 ·by_cases hj:j=i
  ·subst hj;rw [gr] at e;cases w with
   | val d'=>cases e
   | new l'=>
    cases e;obtain⟨a,xs,e1,p1,p2,p3,p4⟩:=q
    subst e1;exact⟨a,xs,gs,p1,p2,p3,p4⟩
  ·rw [nr hj] at e;rw [ns hj];exact S.own j l e
 ·by_cases hj:j=i
  ·by_cases hk:k=i
   ·rw [hj,hk]
   ·subst hj;rw [gr] at e1;rw [gs] at e3;rw [nr hk] at e2;rw [ns hk] at e4;cases w with
    | val d'=>cases e1
    | new l'=>cases e3;exact absurd ⟨k,m,e2,e4⟩ (hd l' rfl a rfl)
  ·by_cases hk:k=i
   ·subst hk;rw [gr] at e2;rw [gs] at e4;rw [nr hj] at e1;rw [ns hj] at e3;cases w with
    | val d'=>cases e2
    | new l'=>cases e4;exact absurd ⟨j,l,e1,e3⟩ (hd l' rfl a rfl)
   ·rw [nr hj] at e1;rw [ns hj] at e3;rw [nr hk] at e2;rw [ns hk] at e4;exact S.dis j k l m a e1 e2 e3 e4
theorem Owned.not_after (S:SR K H0 Fc F H σ ρ) {F2 H2:Hp} {w:W} {v:V} (s:Same (DL.borrow F H σ ρ) F2) (q:RW K H0 F2 H2 w v):∀ l,w=.new l->∀ a,v=.ref a -> ¬ Owned σ (DL.after w ρ) a:=fun l e a ev z=>by
 subst e;obtain⟨b,xs,e1,p1,_⟩:=q
 rw [ev] at e1;cases e1;obtain⟨i,m,h1,h2⟩:=z
 unfold DL.after at h1;by_cases f:lfW (.new l)=true
 ·rw [if_pos f] at h1;have hz:Owned σ ρ a:=⟨i,m,h1,h2⟩;obtain⟨_,_,ys,r⟩:=S.owned_none hz
  have:=s a _ (by unfold DL.borrow;rw [if_pos hz];exact r)
  rw [p1] at this;cases this
 ·rw [if_neg f] at h1;obtain⟨c,_,h⟩:=zhu h1
  cases h
theorem SR.mut (S:SR K H0 Fc F H σ ρ) {i:Nat} {l m:List D} {a:Addr} {ys:List V} (h:ρ[i]? = some (some (.ow l))) (ha:σ[i]? = some (some (.ref a))) (q:DenL K F m ys):SR K H0 Fc F (upd H a (.lst ys)) σ (ρ.set i (some (.ow m))):=by
 have hz:Owned σ ρ a:=⟨i,l,h,ha⟩;obtain⟨hF,h0,xs,hH⟩:=S.owned_none hz
 have hi:i<ρ.length:=(Zm.mp h).1;have gr:(ρ.set i (some (.ow m)))[i]? = some (some (.ow m)):=by rw [Wd hi]
 have nr:∀ {j},j≠i->(ρ.set i (some (.ow m)))[j]? = ρ[j]?:=fun h=>Y9 (Wh h)
 have ow:∀ {j:Nat} {k:List D},(ρ.set i (some (B.ow m)))[j]? = some (some (B.ow k))->∃ k':List D,ρ[j]? = some (some (B.ow k')):=fun {j k} e=>by
  by_cases hj:j=i
  ·subst hj;exact⟨l,h⟩
  ·rw [nr hj] at e;exact⟨k,e⟩
 refine⟨fun b o e=>?_,fun b o e=>?_,S.base,S.new,fun j d e=>?_,fun j k e=>?_,fun j k p q' b e1 e2 e3 e4=>?_,by rw [Qe];exact S.len⟩
 ·rw [Gh (fun z=>by subst z;rw [hF] at e;cases e)];exact S.sub b o e
 ·rw [Gh (fun z=>by subst z;rw [h0] at e;cases e)];exact S.same b o e
 ·by_cases hj:j=i
  ·subst hj;rw [gr] at e;cases e
  ·rw [nr hj] at e;exact S.env j d e
 ·by_cases hj:j=i
  ·subst hj;rw [gr] at e;cases e;exact⟨a,ys,ha,hF,h0,Gj,q⟩
  ·rw [nr hj] at e;obtain⟨b,zs,p,p1,p2,p3,p4⟩:=S.own j k e
   refine⟨b,zs,p,p1,p2,?_,p4⟩
   rw [Gh (fun z=>by subst z;exact hj (S.dis j i k l b e h p ha))];exact p3
 ·obtain⟨k1,f1⟩:=ow e1
  obtain⟨k2,f2⟩:=ow e2
  exact S.dis j k k1 k2 b f1 f2 e3 e4
end
inductive Out where
 | nx (ρ:RhoS) | rt (w:W)
structure RT (H0 Fc F H:Hp):Prop where
 sub:Same F H
 same:Same H0 H
 base:Same Fc F
 new:∀ a o,F a=some o->Fc a=some o\/H0 a=none
def tS (K:PySem.W.Frag) (H0 Fc:Hp) (ρ:RhoS) (o:Out):TS:=fun D σ H=>∃ F,SR K H0 Fc F H σ ρ/\match o with
 | .nx ρ'=>∀ σ' H' F',Same F F'->SR K H0 Fc F' H' σ' ρ'->D.nx σ' H'
 | .rt w=>∀ v H' F',RT H0 Fc F' H'->RW K H0 F' H' w v->D.rt v H'
def DS (X:Cx) (s:Stmt) (ρ:RhoS) (o:Out):Prop:=∀ H0 Fc,PS X s (tS X.K H0 Fc ρ o)
def DSs (X:Cx) (s:List Stmt) (ρ:RhoS) (o:Out):Prop:=∀ H0 Fc,PSs X s (tS X.K H0 Fc ρ o)
section
variable {X:Cx} {st:Stmt} {rest:List Stmt} {ρ ρ':RhoS} {o:Out} {w:W} {e:Expr} {pos:Pos}
theorem DSs.nil:DSs X [] ρ (.nx ρ):=fun H0 Fc=>PSs.mono yaw fun D σ H ⟨F,S,k⟩=>k σ H F (Same.refl _) S
theorem DSs.next (h1:DS X st ρ (.nx ρ')) (h2:DSs X rest ρ' o):DSs X (st::rest) ρ o:=fun H0 Fc=>PSs.mono (zmg (h1 H0 Fc) (h2 H0 Fc)) fun D σ H ⟨F,S,k⟩=>
 ⟨F,S,fun σ' H' F' s' S'=>⟨F',S',by
  cases o with
  | nx ρ2=>exact fun σ2 H2 F2 s2 S2=>k σ2 H2 F2 (s'.trans s2) S2
  | rt w=>exact k⟩⟩
theorem DSs.ret (h1:DS X st ρ (.rt w)):DSs X (st::rest) ρ (.rt w):=fun H0 Fc=>PSs.mono (zmg (h1 H0 Fc) zez) fun D σ H ⟨F,S,k⟩=>⟨F,S,k⟩
theorem DS.asg {i:Nat} {x:Str} {pos':Pos} (hN:X.N.Nodup) (hi:X.N[i]? = some x) (hx:Loc X.env.scope x) (hf:X.fn x=true\/X.env.scope.names.lookup x=some .local) (hs:swapsWith e (some (.Name x pos')) pos.line X.env=pure false) (hl:i<ρ.length)
  (he:DE X e (view ρ) w):DS X (.Assign [.Name x pos'] e pos) ρ (.nx ((after w ρ).set i (some w.b))):=fun H0 Fc=>PS.mono (ps_set hN hi hx (he H0 Fc) hs hf) fun D σ H ⟨F,S,k⟩=>by
 obtain⟨s0,R⟩:=S.borrow
 refine⟨_,R,fun v H2 F2 s2 R2 q=>?_⟩
 obtain⟨F3,s3,S3,q3⟩:=S.after s2 R2 q
 refine k _ H2 F3 s3 (S3.bind q3 ?_ (Owned.not_after S s2 q));rw [<- S3.len,S.len];exact hl
theorem DS.ret (he:DE X e (view ρ) w):DS X (.Return (some e) pos) ρ (.rt w):=fun H0 Fc=>PS.mono (zxv (he H0 Fc)) fun D σ H ⟨F,S,k⟩=>by
 obtain⟨s0,R⟩:=S.borrow
 exact⟨_,R,fun v H2 F2 s2 R2 q=>k v H2 F2 ⟨R2.sub,R2.same,R2.base,R2.new⟩ q⟩
theorem DS.retOwn {i:Nat} {x:Str} {l:List D} {p:Pos} (hN:X.N[i]? = some x) (hv:Vis X.env.scope x) (hd:(x == ("__debug__" : Str))=false) (hcd:(x == ("__classdict__" : Str))=false) (hr:ρ[i]? = some (some (.ow l))) :
  DS X (.Return (some (.Name x p)) pos) ρ (.rt (.new l)):=fun H0 Fc=>PS.mono (zxv (zdg hN hv hd hcd)) fun D σ H ⟨F,S,k⟩=>by
 obtain⟨a,xs,p,p1,p2,p3,p4⟩:=S.own i l hr
 exact⟨_,p,k _ H F ⟨S.sub,S.same,S.base,S.new⟩ (RW.n p1 p2 p3 p4)⟩
theorem SR.tested {K:PySem.W.Frag} {H0 Fc F H:Hp} {σ:L2.St} (S:SR K H0 Fc F H σ ρ) {F2 H2:Hp} (s:Same (DL.borrow F H σ ρ) F2) (R:ER K H0 Fc F2 H2 σ (view ρ)):∃ F3,Same F F3/\SR K H0 Fc F3 H2 σ ρ:=by
 obtain⟨F3,a,b,_⟩:=S.back (w:=.val .non) (v:=.non) s R (RW.v Den.non_mk) rfl
 exact⟨F3,a,b⟩
theorem tS.pre {K:PySem.W.Frag} {H0 Fc F F3 H H2:Hp} {σ:L2.St} {ρ2:RhoS} {D:Ends} (s:Same F F3) (S3:SR K H0 Fc F3 H2 σ ρ2)
  (k:match o with | .nx ρ'=>∀ σ' H' F',Same F F'->SR K H0 Fc F' H' σ' ρ'->D.nx σ' H' | .rt w=>∀ v H' F',RT H0 Fc F' H'->RW K H0 F' H' w v->D.rt v H'):tS K H0 Fc ρ2 o D σ H2:=⟨F3,S3,by
 cases o with
 | nx ρ'=>exact fun σ' H' F' s' S'=>k σ' H' F' (s.trans s') S'
 | rt w=>exact k⟩
theorem DS.ifT {c:Expr} {a b:List Stmt} (hc:DT X c (view ρ) true) (ha:DSs X a ρ o):DS X (.If c a b pos) ρ o:=fun H0 Fc=>PS.mono (ps_if (hc H0 Fc) (ha H0 Fc) zez) fun D σ H ⟨F,S,k⟩=>by
 obtain⟨s0,R⟩:=S.borrow
 refine⟨_,R,fun H2 F2 s2 R2=>iteT ?_⟩
 obtain⟨F3,s3,S3⟩:=S.tested s2 R2
 exact tS.pre (H:=H) s3 S3 k
theorem DS.ifF {c:Expr} {a b:List Stmt} (hc:DT X c (view ρ) false) (hb:DSs X b ρ o):DS X (.If c a b pos) ρ o:=fun H0 Fc=>PS.mono (ps_if (hc H0 Fc) zez (hb H0 Fc)) fun D σ H ⟨F,S,k⟩=>by
 obtain⟨s0,R⟩:=S.borrow
 refine⟨_,R,fun H2 F2 s2 R2=>iteF ?_⟩
 obtain⟨F3,s3,S3⟩:=S.tested s2 R2
 exact tS.pre (H:=H) s3 S3 k
def G3 (c:RhoS->Option Bool) (b:RhoS->Option Out):Nat->RhoS->Option Out
 | 0,_=>none
 | n+1,ρ=>match c ρ with
  | none=>none
  | some false=>some (.nx ρ)
  | some true=>match b ρ with
   | none=>none
   | some (.rt w)=>some (.rt w)
   | some (.nx ρ')=>G3 c b n ρ'
theorem DS.while_ {c:Expr} {body:List Stmt} {fc:RhoS->Option Bool} {fb:RhoS->Option Out} {n:Nat} (hp:PassesOwn (model X.prog X.w) X.A X.env X.xe) (hc:∀ ρ k,fc ρ=some k->DT X c (view ρ) k) (hb:∀ ρ o,fb ρ=some o->DSs X body ρ o)
  (hw:G3 fc fb n ρ=some o):DS X (.While c body [] pos) ρ o:=fun H0 Fc=>by
 have pc:PT X c (fun σ H Q=>∃ ρ k,fc ρ=some k/\tDT X.K H0 Fc (view ρ) k σ H Q):=fun pins s σ H Q I ⟨ρ,k,h,q⟩=>hc ρ k h H0 Fc pins s σ H Q I q
 have pb:PSs X body (fun D σ H=>∃ ρ o,fb ρ=some o/\tS X.K H0 Fc ρ o D σ H):=fun pins s σ H D I ⟨ρ,o,h,q⟩=>hb ρ o h H0 Fc pins s σ H D I q
 refine PS.mono (zuz hp pc pb) fun D σ H ⟨F,S,k⟩=>?_;refine⟨fun m σ' H'=>∃ ρ' F',Same F F'/\SR X.K H0 Fc F' H' σ' ρ'/\G3 fc fb m ρ'=some o,⟨n,ρ,F,Same.refl _,S,hw⟩,?_⟩
 rintro m σ1 H1 ⟨ρ1,F1,s1,S1,h1⟩
 cases m with
 | zero=>cases h1
 | succ m=>
  unfold G3 at h1;cases e:fc ρ1 with
  | none=>rw [e] at h1;cases h1
  | some kk=>
   rw [e] at h1;obtain⟨s0,R⟩:=S1.borrow
   refine⟨ρ1,kk,e,_,R,fun H2 F2 s2 R2=>?_⟩
   obtain⟨F3,s3,S3⟩:=S1.tested s2 R2
   cases kk with
   | false=>
    refine iteF ?_;cases h1;exact k σ1 H2 F3 (s1.trans s3) S3
   | true=>
    refine iteT ?_;cases e2:fb ρ1 with
    | none=>simp only [e2] at h1;cases h1
    | some o2=>
     simp only [e2] at h1;cases o2 with
     | rt w=>
      cases h1;exact⟨fun _ _=>False,fun _ _ z=>z.elim,ρ1,_,e2,F3,S3,k⟩
     | nx ρ2=>
      refine⟨fun σ' H'=>∃ F',Same F F'/\SR X.K H0 Fc F' H' σ' ρ2,fun σ' H' ⟨F',s',S'⟩=>⟨m,Qa _,ρ2,F',s',S',h1⟩,ρ1,_,e2,F3,S3,?_⟩
      exact fun σ' H' F' s' S'=>⟨F',(s1.trans s3).trans s',S'⟩
end
end DL
namespace DL
open PySem L2 PyProof.Rows
section
variable {K:PySem.W.Frag} {H0 Fc F H:Hp} {σ:L2.St} {ρ:RhoS}
theorem SR.lay (S:SR K H0 Fc F H σ ρ) {a:Addr} (o:HO) (hn:H a=none):SR K H0 Fc (upd F a o) (upd H a o) σ ρ/\Same F (upd F a o):=by
 have hF:F a=none:=by
  cases q:F a with
  | none=>rfl
  | some u=>rw [S.sub a u q] at hn;cases hn
 have h0:H0 a=none:=S.same.free hn;have sF:=B6 (o:=o) hF;refine⟨⟨fun b u e=>?_,S.same.trans (B6 hn),S.base.trans sF,fun b u e=>?_,fun i d e=>?_,fun i l e=>?_,S.dis,S.len⟩,sF⟩
 ·by_cases hb:b=a
  ·subst hb;rw [Gj] at e |-;exact e
  ·rw [Gh hb] at e |-;exact S.sub b u e
 ·by_cases hb:b=a
  ·subst hb;exact .inr h0
  ·rw [Gh hb] at e;exact S.new b u e
 ·obtain⟨v,h1,h2⟩:=S.env i d e
  exact⟨v,h1,h2.mono sF⟩
 ·obtain⟨b,xs,p,p1,p2,p3,p4⟩:=S.own i l e
  have hb:b≠a:=fun z=>by subst z;rw [p3] at hn;cases hn
  exact⟨b,xs,p,by rw [Gh hb];exact p1,p2,by rw [Gh hb];exact p3,p4.mono sF⟩
theorem SR.frz1 (S:SR K H0 Fc F H σ ρ) {a:Addr} {xs:List V} (hF:F a=none) (h0:H0 a=none) (hH:H a=some (.lst xs)) (no:¬ Owned σ ρ a):SR K H0 Fc (upd F a (.lst xs)) H σ ρ/\Same F (upd F a (.lst xs)):=by
 have sF:=B6 (o:=.lst xs) hF;refine⟨⟨fun b u e=>?_,S.same,S.base.trans sF,fun b u e=>?_,fun i d e=>?_,fun i l e=>?_,S.dis,S.len⟩,sF⟩
 ·by_cases hb:b=a
  ·subst hb;rw [Gj] at e;cases e;exact hH
  ·rw [Gh hb] at e;exact S.sub b u e
 ·by_cases hb:b=a
  ·subst hb;exact .inr h0
  ·rw [Gh hb] at e;exact S.new b u e
 ·obtain⟨v,h1,h2⟩:=S.env i d e
  exact⟨v,h1,h2.mono sF⟩
 ·obtain⟨b,ys,p,p1,p2,p3,p4⟩:=S.own i l e
  have hb:b≠a:=fun z=>by subst z;exact no ⟨i,l,e,p⟩
  exact⟨b,ys,p,by rw [Gh hb];exact p1,p2,p3,p4.mono sF⟩
theorem SR.afterF (S:SR K H0 Fc F H σ ρ) {F2 H2:Hp} {w:W} {v:V} (s:Same (DL.borrow F H σ ρ) F2) (R:ER K H0 Fc F2 H2 σ (view ρ)) (q:RW K H0 F2 H2 w v) :
  ∃ F3,Same F F3/\SR K H0 Fc F3 H2 σ (DL.after w ρ)/\Den K F3 w.d v:=by
 have no:=Owned.not_after S s q;obtain⟨F3,s3,S3,q3⟩:=S.after s R q
 cases w with
 | val d=>exact⟨F3,s3,S3,q3⟩
 | new l=>
  obtain⟨a,xs,e,p1,p2,p3,p4⟩:=q3
  subst e;obtain⟨S4,s4⟩:=S3.frz1 p1 p2 p3 (no l rfl a rfl)
  exact⟨_,s3.trans s4,S4,Den.lst_mk (SqL.of Gj) (p4.mono s4)⟩
end
theorem PG.mono {X:Cx} {tg:Expr} {t t':TG} (h:PG X tg t) (k:∀ v σ H Q,t' v σ H Q->t v σ H Q):PG X tg t':=fun pins s σ H v u Q I r q=>h pins s σ H v u Q I r (k v σ H Q q)
theorem PGs.mono {X:Cx} {tg:List Expr} {t t':TGs} (h:PGs X tg t) (k:∀ v σ H Q,t' v σ H Q->t v σ H Q):PGs X tg t':=fun pins s σ H v u Q I r q=>h pins s σ H v u Q I r (k v σ H Q q)
theorem PI.mono {X:Cx} {tg it:Expr} {t t':TI} (h:PI X tg it t) (k:∀ σ H R,t' σ H R->t σ H R):PI X tg it t':=fun pins s σ H R I q=>h pins s σ H R I (k σ H R q)
def DG (X:Cx) (tg:Expr) (d:D) (ρ ρ':RhoS):Prop:=∀ H0 Fc,PG X tg (fun v σ H Q=>∃ F,SR X.K H0 Fc F H σ ρ/\Den X.K F d v/\∀ σ',SR X.K H0 Fc F H σ' ρ'->Q σ' H)
def DGs (X:Cx) (tg:List Expr) (ds:List D) (ρ ρ':RhoS):Prop:=∀ H0 Fc,PGs X tg (fun vs σ H Q=>∃ F,SR X.K H0 Fc F H σ ρ/\DenL X.K F ds vs/\∀ σ',SR X.K H0 Fc F H σ' ρ'->Q σ' H)
section
variable {X:Cx} {st:Stmt} {rest:List Stmt} {ρ ρ' ρ2:RhoS} {o:Out} {w:W} {e t:Expr} {ts es:List Expr} {pos:Pos} {d:D} {ds:List D}
theorem SR.bindS {K:PySem.W.Frag} {H0 Fc F H:Hp} {σ:L2.St} (S:SR K H0 Fc F H σ ρ) {i:Nat} {v:V} (q:Den K F d v) (hi:i<ρ.length):SR K H0 Fc F H (σ.set i (some v)) (ρ.set i (some (.sh d))):=
 S.bind (w:=.val d) (RW.v q) hi fun l e=>by cases e
theorem DG.name {i:Nat} {x:Str} (hN:X.N.Nodup) (hi:X.N[i]? = some x) (hx:Loc X.env.scope x) (hf:X.fn x=true\/X.env.scope.names.lookup x=some .local) (hl:i<ρ.length):DG X (.Name x pos) d ρ (ρ.set i (some (.sh d))):=fun H0 Fc=>
 PG.mono (zqm hN hi hx hf) fun v σ H Q ⟨F,S,q,k⟩=>k _ (S.bindS q hl)
theorem DGs.nil:DGs X [] [] ρ ρ:=fun H0 Fc=>PGs.mono zql fun vs σ H Q ⟨F,S,q,k⟩=>⟨q.inv_nil,k σ S⟩
theorem Bs {env:Env} (h:Ga t=true):assignEach (t::ts) env=(false,assign t env)::assignEach ts env:=by
 cases t <;> first | rfl | (cases h;done)
theorem Gw {env:Env}:∀ {ts:List Expr},ts.all Ga=true->(assignEach ts env).length=ts.length/\(assignEach ts env).findIdx? (·.1)=none
 | [],_=>⟨rfl,rfl⟩
 | t::ts,h=>by
  rw [Wx,Zl] at h;obtain⟨a,b⟩:=Gw (env:=env) h.2
  rw [Bs h.1];refine⟨by rw [Zu,a,Zu],?_⟩
  rw [List.findIdx?_cons,b];rfl
theorem DGs.cons (h1:DG X t d ρ ρ') (h2:DGs X ts ds ρ' ρ2) (hs:Ga t=true):DGs X (t::ts) (d::ds) ρ ρ2:=fun H0 Fc=>
 PGs.mono (zmi (h1 H0 Fc) (h2 H0 Fc) (by rw [Bs hs];rfl)) fun vs σ H Q ⟨F,S,q,k⟩=>by
  obtain⟨v,r,e,q1,q2⟩:=q.inv_cons
  exact⟨v,r,e,F,S,q1,fun σ' S'=>⟨F,S',q2,k⟩⟩
theorem DG.tup {k} (hc:X.calm=true) (h:DGs X ts ds ρ ρ') (hs:ts.all Ga=true) (hl:ds.length=ts.length):DG X (.Tuple ts k pos) (.tup ds) ρ ρ':=fun H0 Fc=>
 PG.mono (zxx (n:=ts.length) hc (h H0 Fc) (Gw hs).1 (Gw hs).2) fun v σ H Q ⟨F,S,q,k⟩=>by
  obtain⟨a,xs,e,sq,r⟩:=q.tup
  exact⟨a,xs,e,Same.tup S.sub sq,by rw [r.length];exact hl,F,S,r,k⟩
theorem DS.asgT (he:DE X e (view ρ) w) (hg:DG X t w.d (after w ρ) ρ') (hs:swapsWithSole [t] e pos.line X.env=pure false) (hw:swappedStores [t] e X.env=pure none) (hst:Ga t=true):DS X (.Assign [t] e pos) ρ (.nx ρ'):=fun H0 Fc=>
 PS.mono (zxw (he H0 Fc) (hg H0 Fc) hs hw (by rw [Bs hst];rfl)) fun D σ H ⟨F,S,k⟩=>by
  obtain⟨s0,R⟩:=S.borrow
  refine⟨_,R,fun v H2 F2 s2 R2 q=>?_⟩
  obtain⟨F3,s3,S3,q3⟩:=S.afterF s2 R2 q
  exact⟨F3,S3,q3,fun σ' S'=>k σ' H2 F3 s3 S'⟩
theorem yby {K:PySem.W.Frag} {H0 Fc F H:Hp} {σ:L2.St} (S:SR K H0 Fc F H σ ρ) {F2 H2:Hp} {vs:List V} (s:Same (DL.borrow F H σ ρ) F2) (R:ER K H0 Fc F2 H2 σ (view ρ)) (q:DenL K F2 ds vs) (f:lfL ds=true) :
  ∃ F3,Same F F3/\SR K H0 Fc F3 H2 σ ρ/\DenL K F3 ds vs:=by
 induction ds generalizing vs with
 | nil=>
  obtain⟨F3,a,b⟩:=S.tested s R
  rw [q.inv_nil];exact⟨F3,a,b,DenL.nil⟩
 | cons d ds ih=>
  classical
  have key:∀ (d:D) (v:V),lf d=true->Den K F2 d v->Den K (fun a=>if Owned σ ρ a then none else F2 a) d v:=fun d v f q=>by
   have tups:∀ a xs,SqT K F2 a xs->SqT K (fun a=>if Owned σ ρ a then none else F2 a) a xs:=fun a xs h=>by
    rcases h with h | h
    ·refine .inl ?_;have hz:¬ Owned σ ρ a:=fun z=>by
      obtain⟨_,_,ys,r⟩:=S.owned_none z
      have e:=s a _ (by unfold DL.borrow;rw [if_pos z];exact r);rcases h with h | ⟨o,h⟩
      ·rw [e] at h;cases h
      ·rw [e] at h;cases h
     rcases h with h | ⟨o,h⟩
     ·exact .inl (by show (if Owned σ ρ a then none else F2 a)=_;rw [if_neg hz];exact h)
     ·exact .inr ⟨o,by show (if Owned σ ρ a then none else F2 a)=_;rw [if_neg hz];exact h⟩
    ·exact .inr h
   exact Den.shrink tups d f q
  have keyL:∀ (l:List D) (xs:List V),lfL l=true->DenL K F2 l xs->DenL K (fun a=>if Owned σ ρ a then none else F2 a) l xs:=fun l=>by
   induction l with
   | nil=>intro xs _ q;rw [q.inv_nil];exact DenL.nil
   | cons d l ih2=>
    intro xs f q;simp only [lfL,Zl] at f;obtain⟨v,vs,e,q1,q2⟩:=q.inv_cons
    subst e;exact DenL.cons (key d v f.1 q1) (ih2 vs f.2 q2)
  have sF:Same F (fun a=>if Owned σ ρ a then none else F2 a):=fun a o e=>by
   have hz:¬ Owned σ ρ a:=fun z=>by rw [(S.owned_none z).1] at e;cases e
   show (if Owned σ ρ a then none else F2 a)=some o;rw [if_neg hz];exact s a o (S.borrow.1 a o e)
  have hsub:∀ a o,(if Owned σ ρ a then none else F2 a)=some o->F2 a=some o:=fun a o e=>by
   by_cases hz:Owned σ ρ a
   ·rw [if_pos hz] at e;cases e
   ·rw [if_neg hz] at e;exact e
  refine⟨_,sF,⟨fun a o e=>R.sub a o (hsub a o e),R.same,S.base.trans sF,fun a o e=>R.new a o (hsub a o e),fun i d e=>?_,fun i l e=>?_,S.dis,S.len⟩,keyL _ _ f q⟩
  ·obtain⟨v,p,q⟩:=S.env i d e
   exact⟨v,p,q.mono sF⟩
  ·obtain⟨a,xs,p,p1,p2,p3,p4⟩:=S.own i l e
   have hz:Owned σ ρ a:=⟨i,l,e,p⟩;refine⟨a,xs,p,if_pos hz,p2,?_,p4.mono sF⟩
   exact R.sub _ _ (s a _ (by unfold DL.borrow;rw [if_pos hz];exact p3))
theorem DS.par {i j:Nat} {x y:Str} {a b:Expr} {px py pt:Pos} {kt k2 pt2} {d1 d2:D} (hc:X.calm=true) (hN:X.N.Nodup) (hi:X.N[i]? = some x) (hj:X.N[j]? = some y) (hij:i≠j)
  (hx:X.env.scope.names.lookup x=some .local) (hy:X.env.scope.names.lookup y=some .local) (ha:DA X [a,b] (view ρ) [d1,d2]) (hil:i<ρ.length) (hjl:j<ρ.length) (f1:lf d1=true) (f2:lf d2=true)
  (hw:swappedStores [.Tuple [.Name x px,.Name y py] kt pt] (.Tuple [a,b] k2 pt2) X.env=pure (some [x,y])) :
  DS X (.Assign [.Tuple [.Name x px,.Name y py] kt pt] (.Tuple [a,b] k2 pt2) pos) ρ (.nx ((ρ.set i (some (.sh d1))).set j (some (.sh d2)))):=fun H0 Fc=>
 PS.mono (ps_par hc hN hi hj hij hx hy (ha H0 Fc) hw (by rfl)) fun D σ H ⟨F,S,k⟩=>by
  obtain⟨s0,R⟩:=S.borrow
  refine⟨_,R,fun vs H2 F2 s2 R2 q=>?_⟩
  obtain⟨F3,s3,S3,q3⟩:=yby S s2 R2 q (by simp [lfL,f1,f2])
  obtain⟨v,u,e,q1,q2⟩:=q3.two
  refine⟨v,u,e,k _ H2 F3 s3 ((S3.bindS q1 hil).bindS q2 (by rw [Qe];exact hjl))⟩
def Yields (K:PySem.W.Frag) (F H:Hp) (d:D) (x:V) (H':Hp):Prop:=(H'=H/\Den K F d x)\/∃ p xs ds,H p=none/\H'=upd H p (.tup xs)/\x=.ref p/\d=.tup ds/\DenL K F ds xs
def Walks (K:PySem.W.Frag) (F:Hp) (J:It) (items:List D):Prop:=∀ i H,Same F H->(∀ d,items[i]? = some d->J.go i H/\∀ x H',J.yld i H x H'->Yields K F H d x H')/\(items.length<=i->J.stop i H)
def DI (X:Cx) (tg iter:Expr) (ρ:RhoS) (items:List D) (ρ':RhoS):Prop:=∀ H0 Fc,PI X tg iter (fun σ H R=>∃ F,SR X.K H0 Fc F H σ ρ/\∀ J H' F',Same F F'->SR X.K H0 Fc F' H' σ ρ'->Walks X.K F' J items->R J H')
def forN (bt:D->RhoS->Option RhoS) (b:RhoS->Option Out):List D->RhoS->Option Out
 | [],ρ=>some (.nx ρ)
 | d::l,ρ=>match bt d ρ with
  | none=>none
  | some ρ1=>match b ρ1 with
   | none=>none
   | some (.rt w)=>some (.rt w)
   | some (.nx ρ2)=>forN bt b l ρ2
theorem DS.for_ {tg iter:Expr} {body:List Stmt} {bt:D->RhoS->Option RhoS} {fb:RhoS->Option Out} {items:List D} (hp:PassesOwn (model X.prog X.w) X.A X.env X.xe) (hc:X.calm=true) (hi:DI X tg iter ρ items ρ')
  (hg:∀ d ρ ρ',bt d ρ=some ρ'->DG X tg d ρ ρ') (hb:∀ ρ o,fb ρ=some o->DSs X body ρ o) (hw:forN bt fb items ρ'=some o) (hs:∀ x,foldedSetIterable iter X.env x=pure x):DS X (.For tg iter body [] pos) ρ o:=fun H0 Fc=>by
 have pg:PG X tg (fun v σ H Q=>∃ d ρ ρ',bt d ρ=some ρ'/\∃ F,SR X.K H0 Fc F H σ ρ/\Den X.K F d v/\∀ σ',SR X.K H0 Fc F H σ' ρ'->Q σ' H):=fun pins s σ H v u Q I r ⟨d,ρ,ρ',h,q⟩=>hg d ρ ρ' h H0 Fc pins s σ H v u Q I r q
 have pb:PSs X body (fun D σ H=>∃ ρ o,fb ρ=some o/\tS X.K H0 Fc ρ o D σ H):=fun pins s σ H D I ⟨ρ,o,h,q⟩=>hb ρ o h H0 Fc pins s σ H D I q
 refine PS.mono (ps_for hp hc (hi H0 Fc) pg pb hs) fun D σ H ⟨F,S,k⟩=>⟨F,S,fun J H1 F1 s1 S1 wk=>?_⟩
 refine⟨fun i m σ' H'=>m=items.length-i/\i<=items.length/\∃ ρ2 F2,Same F1 F2/\SR X.K H0 Fc F2 H' σ' ρ2/\forN bt fb (items.drop i) ρ2=some o,⟨_,rfl,Yi _,ρ',F1,Same.refl _,S1,hw⟩,?_⟩
 rintro i m σ2 H2 ⟨rfl,hil,ρ2,F2,s2,S2,h2⟩
 have wk':=wk i H2 (s2.trans S2.sub);by_cases hlt:i<items.length
 ·have hd:items[i]? = some items[i]:=Ze hlt;rw [Z1 hlt] at h2;obtain⟨go,yl⟩:=wk'.1 _ hd
  unfold forN at h2;cases e1:bt items[i] ρ2 with
  | none=>rw [e1] at h2;cases h2
  | some ρ3=>
   simp only [e1] at h2;cases e2:fb ρ3 with
   | none=>simp only [e2] at h2;cases h2
   | some o2=>
    simp only [e2] at h2;have item:∀ x H',J.yld i H2 x H'->∃ F3,Same F2 F3/\SR X.K H0 Fc F3 H' σ2 ρ2/\Den X.K F3 items[i] x:=fun x H' y=>by
     rcases yl x H' y with⟨e,q⟩ | ⟨p,xs,ds,hp,e,ex,ed,q⟩
     ·subst e;exact⟨F2,Same.refl _,S2,q.mono s2⟩
     ·subst e ex;obtain⟨S3,s3⟩:=S2.lay (.tup xs) hp
      refine⟨_,s3,S3,?_⟩
      rw [ed];exact Den.tup_mk (SqT.of Gj) ((q.mono s2).mono s3)
    cases o2 with
    | rt w=>
     cases h2;refine .inr ⟨go,fun _ _=>False,fun _ _ z=>z.elim,fun x H' y=>?_⟩;obtain⟨F3,s3,S3,q3⟩:=item x H' y
     exact⟨_,ρ2,ρ3,e1,F3,S3,q3,fun σ' S'=>⟨ρ3,_,e2,F3,S',k⟩⟩
    | nx ρ4=>
     refine .inr ⟨go,fun σ' H'=>∃ F',Same F1 F'/\SR X.K H0 Fc F' H' σ' ρ4,fun σ' H' ⟨F',s',S'⟩=>⟨items.length-(i+1),by omega,rfl,hlt,ρ4,F',s',S',h2⟩,fun x H' y=>?_⟩;obtain⟨F3,s3,S3,q3⟩:=item x H' y
     exact⟨_,ρ2,ρ3,e1,F3,S3,q3,fun σ' S'=>⟨ρ3,_,e2,F3,S',fun σ5 H5 F5 s5 S5=>⟨F5,(s2.trans s3).trans s5,S5⟩⟩⟩
 ·have e:i=items.length:=by omega
  subst e;rw [V5] at h2;cases h2;refine .inl ⟨wk'.2 (Zj _),?_⟩;exact k σ2 H2 F2 (s1.trans s2) S2
theorem DI.list {tg:Expr} {l:List D} (he:DE X e (view ρ) w) (hl:w.d=.lst l):DI X tg e ρ l (after w ρ):=fun H0 Fc=>PI.mono (zkt (he H0 Fc)) fun σ H R ⟨F,S,k⟩=>by
 obtain⟨s0,Re⟩:=S.borrow
 refine⟨_,Re,fun v H2 F2 s2 R2 q=>?_⟩
 obtain⟨F3,s3,S3,q3⟩:=S.afterF s2 R2 q
 rw [hl] at q3;obtain⟨a,xs,e1,sq,r⟩:=q3.lst
 refine⟨a,e1,⟨xs,S3.sub.seq sq⟩,k _ H2 F3 s3 S3 fun i H' sH=>⟨fun d hd=>?_,fun hle=>⟨xs,sH.seq sq,by rw [r.length];exact hle⟩⟩⟩
 obtain⟨y,h1,h2⟩:=r.get hd
 refine⟨⟨xs,y,sH.seq sq,h1⟩,fun x H'' ⟨ey,yy⟩=>?_⟩
 have:=yy xs (sH.seq sq)
 rw [h1] at this;cases this;exact .inl ⟨ey,h2⟩
theorem DI.tup {tg:Expr} {l:List D} (he:DE X e (view ρ) w) (hl:w.d=.tup l):DI X tg e ρ l (after w ρ):=fun H0 Fc=>PI.mono (zqj (he H0 Fc)) fun σ H R ⟨F,S,k⟩=>by
 obtain⟨s0,Re⟩:=S.borrow
 refine⟨_,Re,fun v H2 F2 s2 R2 q=>?_⟩
 obtain⟨F3,s3,S3,q3⟩:=S.afterF s2 R2 q
 rw [hl] at q3;obtain⟨a,xs,e1,sq,r⟩:=q3.tup
 refine⟨a,e1,⟨xs,Same.tup S3.sub sq⟩,k _ H2 F3 s3 S3 fun i H' sH=>⟨fun d hd=>?_,fun hle=>⟨xs,Same.tup sH sq,by rw [r.length];exact hle⟩⟩⟩
 obtain⟨y,h1,h2⟩:=r.get hd
 refine⟨⟨xs,y,Same.tup sH sq,h1⟩,fun x H'' ⟨ey,yy⟩=>?_⟩
 have:=yy xs (Same.tup sH sq)
 rw [h1] at this;cases this;exact .inl ⟨ey,h2⟩
def Gx (lo:Int) (n:Nat):List D:=(List.range n).map fun (i:Nat)=>D.int (lo+(i:Int))
theorem B7 {K:PySem.W.Frag} {F:Hp} {lo:Int} {n:Nat}:Walks K F (Itr lo n) (Gx lo n):=fun i H sH=>by
 unfold Gx;refine⟨fun d hd=>?_,fun hle=>?_⟩
 ·rw [Zi] at hd;by_cases hlt:i<n
  ·rw [Jg hlt] at hd;cases hd;exact⟨hlt,fun x H' ⟨e1,e2⟩=>.inl ⟨e1,by rw [e2];exact Den.int_mk⟩⟩
  ·rw [Yr (by rw [Qh];omega)] at hd;cases hd
 ·rw [Zc,Qh] at hle;exact hle
theorem DI.range1 {tg a:Expr} {p:Pos} {n:Int} (hg:Gl X "range") (hm:X.mg "range" = none) (ha:DA X [a] (view ρ) [.int n]) (hs:Ga a=true) (h1 : -(2^62)<=n) (h2:n<2^62):DI X tg (.Call (.Name "range" p) [a] [] pos) ρ (Gx 0 n.toNat) ρ:=fun H0 Fc=>
 PI.mono (zje hg hm (ha H0 Fc) (Gf hs)) fun σ H R ⟨F,S,k⟩=>by
  obtain⟨s0,Re⟩:=S.borrow
  refine⟨_,Re,fun vs H2 F2 s2 R2 q=>?_⟩
  obtain⟨F3,s3,S3⟩:=S.tested s2 R2
  obtain⟨v,e,q⟩:=q.one
  rw [q.int] at e;exact⟨n,e,h1,h2,k _ H2 F3 s3 S3 B7⟩
theorem DI.range2 {tg a b:Expr} {p:Pos} {m n:Int} (hg:Gl X "range") (hm:X.mg "range" = none) (ha:DA X [a,b] (view ρ) [.int m,.int n]) (hs:Ga a=true) (hs2:Ga b=true) (h : -(2^62)<=m/\m<2^62 /\ -(2^62)<=n/\n<2^62) :
  DI X tg (.Call (.Name "range" p) [a,b] [] pos) ρ (Gx m (n-m).toNat) ρ:=fun H0 Fc=>
 PI.mono (zjd hg hm (ha H0 Fc) (by rw [Gf hs,Gf hs2];rfl) (by rw [Gf hs2];rfl)) fun σ H R ⟨F,S,k⟩=>by
  obtain⟨s0,Re⟩:=S.borrow
  refine⟨_,Re,fun vs H2 F2 s2 R2 q=>?_⟩
  obtain⟨F3,s3,S3⟩:=S.tested s2 R2
  obtain⟨v,u,e,q1,q2⟩:=q.two
  rw [q1.int,q2.int] at e;exact⟨m,n,e,h,k _ H2 F3 s3 S3 B7⟩
end
end DL
namespace DL
open PySem L2 PyProof.Rows
theorem Inv.turned2 {X:Cx} {pins:List (Addr×Obj)} {σ:L2.St} {H:Hp} {s:Shared} {h':Heap} {e li p:Addr} {o:HO} {t':Nat} (I:Inv X pins σ H s) (he:FpOk X pins H e) (hli:FpOk X pins H li)
  (k:∀ b ob,b≠e->b≠li->s.heap.get? b=some ob->h'.get? b=some ob) (hp:s.heap.objs.size<=p) (new:ObjOk X.prog X.w (upd H p o) h' p o):Inv X pins σ (upd H p o) {s with heap:=h',toks:=t'}:=by
 obtain⟨a0,a1,a2,a3,a4,a5⟩:=he
 obtain⟨b0,b1,b2,b3,b4,b5⟩:=hli
 have nin:∀ {b:Addr},b∉[e,li]->b≠e/\b≠li:=fun h=>by simpa using h
 have npo:∀ {b:Addr} {ob:Obj},s.heap.get? b=some ob->b≠p:=fun h z=>by
  have:=Zs h
  subst z;exact absurd (Zd this hp) (Nat.lt_irrefl _)
 have npH:∀ {b:Addr} {u:HO},H b=some u->b≠p:=fun h z=>by
  subst z;rw [I.hok.fresh hp] at h;cases h
 refine I.step (g':=s.gens) (d':=s.drawn) (ch:=[e,li]) (fun b hb=>?_) (fun b ob _ _ hc q _=>k b ob (nin hc).1 (nin hc).2 q) (fun b ob _ _ hc q _=>⟨ob.slots,k b ob (nin hc).1 (nin hc).2 q⟩)
  (fun b ob hc q n=>by rw [Gh (npo q)];exact n) (fun b ob hc q=>⟨ob,k b ob (nin hc).1 (nin hc).2 q⟩) (fun b xs q=>by rw [Gh (npH q)];exact q) (fun b ob xs q=>by rw [Gh (npH q)];exact q)
  (fun b ps q=>⟨#[],by rw [Gh (npH q),q];simp⟩) (fun m hm=>?_) (fun b u q=>?_) I.bare
 ·rcases Zf.mp hb with z | z
  ·subst z;exact⟨a3,a1,a4,a5⟩
  ·have z:=Zn.mp z;subst z;exact⟨b3,b1,b4,b5⟩
 ·obtain⟨ob,es,ep,q,r⟩:=hm
  exact⟨ob,es,ep,k _ ob (Wh a1) (Wh b1) q,r⟩
 ·by_cases hb:b=p
  ·subst hb;rw [Gj] at q;cases q;exact new
  ·rw [Gh hb] at q;refine (I.hok b u q).stay (fun c v hc z=>k c v ?_ ?_ z) (fun c z=>by rw [Gh (npH z)];exact z) fun c xs z=>by rw [Gh (npH z)];exact z
   ·rintro rfl
    rcases hc with z | z
    ·subst z;rw [a0] at q;cases q
    ·rw [a0] at z;cases z
   ·rintro rfl
    rcases hc with z | z
    ·subst z;rw [b0] at q;cases q
    ·rw [b0] at z;cases z
def Ite (K:PySem.W.Frag) (a:Addr):It:=
 ⟨fun i H=>∃ xs x,SqL K H a xs/\xs[i]? = some x,fun i H x H'=>∃ p y,H p=none/\x=.ref p/\H'=upd H p (.tup [.int (i:Int),y])/\∀ xs,SqL K H a xs->xs[i]? = some y,fun i H=>∃ xs,SqL K H a xs/\xs.length<=i⟩
theorem zpg {P:Program} {w:World} {K:PySem.W.Frag} {elts:List Expr} {x1} {tp:Pos} (a e li:Addr) (hne:e≠li):Turn P w K (.Tuple elts x1 tp) (Ite K a) [e,li] e (fun i h=>(∃ old,IsEnum h e li (i:Int) old)/\h.IsListIter li a i) where
 mem:=by simp
 obj:=fun i h st b hb=>by
  obtain⟨⟨old,h1⟩,h2⟩:=st
  rcases Zf.mp hb with z | z
  ·subst z;exact⟨_,h1,fun v z=>by cases z⟩
  ·have z:=Zn.mp z;subst z;obtain⟨o,e,c,d⟩:=h2
   exact⟨o,e,fun v z=>by rw [d] at z;cases z⟩
 keep:=fun i h h' st k=>by
  obtain⟨⟨old,h1⟩,h2⟩:=st
  exact⟨⟨old,k e (by simp) _ h1⟩,h2.at fun o q=>k li (by simp) o q⟩
 item:=by
  intro X hP hw hK hc i pins s σ H E I hf st hg;subst hP hw hK;obtain⟨⟨old,he⟩,hit⟩:=st
  obtain⟨xs,x,hq,hx⟩:=hg
  obtain⟨its,rv,p,hz⟩:=I.list hq
  obtain⟨u,hu,ru⟩:=rv.get hx
  refine wpAny_pyNext_enum_item he hit p.isList (x:=u) (by simpa using hu) hne fun h1 heo hit1 ht1 hz1 hk1=>⟨_,rfl,?_⟩
  refine wpAny_letOwnedTupleGo_enum heo fun h2 he2 hs2=>?_;have hel:e<s.heap.objs.size:=Zs he;have hll:li<s.heap.objs.size:=by obtain⟨o,q,_⟩:=id hit;exact Zs q
  have ht2:h2.get? s.heap.objs.size=some {cls:=.type "tuple", data:=.seq #[.int i s.toks,u]}:=(hs2.2 _ (Z4 hel)).trans ht1;have hk2:∀ b ob,b≠e->b≠li->s.heap.get? b=some ob->h2.get? b=some ob:=fun b ob n1 n2 q=>(hs2.2 b n1).trans (hk1 b ob n1 n2 q)
  have I2:Inv X pins σ (upd H s.heap.objs.size (.tup [.int (i:Int),x])) {s with heap:=h2,toks:=s.toks+1}:=by
   refine Inv.turned2 I (hf e (by simp)) (hf li (by simp)) hk2 (Zj _) ?_;exact⟨by show 2<=sizeLine;decide,[.int i s.toks,u],.cons ⟨_,rfl⟩ (.cons ru .nil),⟨_,ht2,rfl,_,rfl⟩⟩
  refine⟨.ref s.heap.objs.size,_,I2,rfl,⟨_,x,I.hok.fresh (Zj _),rfl,rfl,fun ys hy=>by rw [I.list_inj hy hq];exact hx⟩,⟨⟨u,?_⟩,?_⟩,fun b hb=>?_⟩
  ·have:((i+1:Nat):Int)=(i:Int)+1:=by push_cast;rfl
   show IsEnum h2 e li ((i+1:Nat):Int) u;rw [this];exact he2
  ·exact hit1.at fun o q=>(hs2.2 li (Wh hne)).trans q
  ·rw [Gh]
   ·exact (hf b hb).1
   ·rcases Zf.mp hb with z | z
    ·subst z;exact Z8 hel
    ·have z:=Zn.mp z;subst z;exact Z8 hll
 done:=by
  intro X hP hw hK hc i pins s σ H E I hf st hg;subst hP hw hK;obtain⟨⟨old,he⟩,hit⟩:=st
  obtain⟨xs,hq,hx⟩:=hg
  obtain⟨its,rv,p,hz⟩:=I.list hq
  obtain⟨f0,f1,f2,f3,f4,f5⟩:=hf li (by simp)
  have hl:=rv.length;exact wpAny_pyNext_enum_end (I.ok.hd hc) he hit p.isList (by simp;omega) fun h' eb=>⟨rfl,I.turned (t':=s.toks) (fun b o hb e=>eb b o hb e) f0 f1 f3 f4 f5⟩
 self:=fun _ _ _ _ _ st h=>by
  obtain⟨⟨old,he⟩,_⟩:=st
  exact wpAny_pyIter_enum he h
theorem zgi:bootBuiltins "enumerate" = some (.type "enumerate"):=by decide +kernel
section
variable {X:Cx} {elts:List Expr} {x1:Nat} {tp:Pos}
def iEnum (K:PySem.W.Frag) (ta:TA):TI:=fun σ H R=>ta σ H fun vs H1=>∃ a,vs=[.ref a]/\(∃ xs,SqL K H1 a xs)/\R (Ite K a) H1
theorem zqk {a:Expr} {ta:TA} {p pos:Pos} (hg:Gl X "enumerate") (hm:X.mg "enumerate" = none) (ha:PA X [a] ta) (hs:starEach [a] X.env=[(false,eval a X.env)]):PI X (.Tuple elts x1 tp) (.Call (.Name "enumerate" p) [a] [] pos) (iEnum X.K ta):=by
 intro pins s σ H R I h;refine Call_ (zcl I hg hm zgi (Yu (thn (ha pos pins s σ H _ I h) fun us s1 ⟨vs,H1,I1,r1,q1⟩=>?_) hs rfl));obtain⟨l,e,⟨xs,hq⟩,q⟩:=q1
 subst e;obtain⟨u,e,r⟩:=zfz r1
 subst e;cases r;obtain⟨its,rv,p,hz⟩:=I1.list hq
 refine call_enumerate_list p.isList fun h' he hit hsz hk=>?_;have I2:Inv X pins σ H1 {s1 with heap:=h'}:=I1.kept (t':=s1.toks) hk;refine wpAny_pyIter_enum he ⟨_,[s1.heap.objs.size+1,s1.heap.objs.size],_,_,H1,rfl,I2,zpg l _ _ (Jz _),⟨⟨_,he⟩,hit⟩,fun b hb=>?_,q⟩;have hb':s1.heap.objs.size<=b:=by
  rcases Zf.mp hb with z | z
  ·rw [z];exact Ko _
  ·rw [Zn.mp z];exact Zj _
 exact I1.fpOk hb' (I1.hok.fresh hb')
end
end DL
namespace DL
open PySem L2 PyProof.Rows
section
variable {prog:Program} {w:World} {A:Around} {E:Value->Shared->Prop} {h:Heap} {g:Array GenState} {d:Drawn} {t:Nat} {os:OsState} {a C:Addr} {o:Obj} {vs:Array Value} {K:PySem.W.Frag}
structure XCls (K:PySem.W.Frag) (C:Addr):Prop where
 cls:PySem.W.isClsIn K C=true
 typ:PySem.W.typeIn K (.ref C)=some (.type "type")
 ga:PySem.W.findIn K (.ref C) "__getattribute__" = some (some (.builtin "BaseException.__getattribute__"))
 noga:PySem.W.findIn K (.ref C) "__getattr__" = some none
 at_:PySem.W.findIn K (.ref C) "__class__" = some (some (.builtin "object.__class__"))
 bexc:PySem.W.subIn K (.ref C) (.type "BaseException")=some true
 obj:PySem.W.subIn K (.ref C) (.type "object")=some true
end
end DL
namespace DL
open PySem L2 PyProof.Rows
section
variable {P:Program} {w:World} {H H':Hp} {h h':Heap} {a:Addr} {o:HO}
theorem ObjOk.ex (x:ObjOk P w H h a o):∃ u,h.get? a=some u:=by
 cases o with
 | lst xs=>obtain⟨_,_,_,_,e⟩:=x;exact⟨_,e⟩
 | tup xs=>obtain⟨_,_,_,o,e,_⟩:=x;exact⟨_,e⟩
 | dK kvs=>obtain⟨_,_,_,_,o,_,_,e,_⟩:=x;exact⟨_,e⟩
 | dT kvs=>obtain⟨_,_,_,_,o,_,_,e,_⟩:=x;exact⟨_,e⟩
 | set S n=>obtain⟨o,_,_,_,e,_⟩:=x;exact⟨_,e⟩
 | ins C dx fs=>obtain⟨_,_,_,e,_⟩:=x;exact⟨_,e⟩
 | own y=>obtain⟨_,e⟩:=x;exact⟨_,e⟩
 | xd fs=>obtain⟨_,⟨_,_,_,e,_⟩,_⟩:=x;exact⟨_,e⟩
 | rng lo hi=>obtain⟨_,_,_,e⟩:=x;exact⟨_,e⟩
 | frz ob u=>obtain⟨e,_⟩:=x;exact⟨_,e⟩
 | tbl ps=>exact⟨_,(show h.get? a=some _ from x)⟩
 | met f y=>exact⟨_,(show h.get? a=some _ from x)⟩
 | ext φ=>obtain⟨_,⟨_,e⟩,_⟩:=x;exact⟨_,e⟩
end
section
variable {fs:List Addr} {H H':Hp} {h0 h h1 B h':Heap}
end
def CX1 (P:Program) (w:World):CXT:=fun outer H s E e s'=>∃ (ea C:Addr) (a0:Value) (B:Heap) (H':Hp),e=.ref ea/\s'.os=s.os/\AllBare s'.gens/\Un (frs outer) [] H H' s.heap s'.heap/\HOk P w H' s'.heap /\
 Heap.FlyingW B outer ea (.ref C) a0 s'.heap/\(∀ b o,s.heap.get? b=some o->b∉frs outer->∃ o',B.get? b=some o')/\(∀ b u,H' b=some u->∃ o',B.get? b=some o')/\E (.ref C) none H'
section
variable {X:Cx} {pins:List (Addr×Obj)} {σ:L2.St} {H:Hp} {s:Shared} {E:XK} {E':Value->Shared->Prop}
end
end DL
namespace DL
open PySem L2 PyProof.Rows
section
variable {X:Cx} {pins:List (Addr×Obj)} {σ:L2.St} {H:Hp} {s:Shared} {E:XK} {E':Value->Shared->Prop}
end
end DL
namespace DL
open PySem L2 PyProof.Rows
abbrev zef:List Str:=["FitError", "NoNumber", "NoShape", "NoSize"]
def subX (x y:Str):Bool:=decide (x=y) || decide (y=("FitError" : Str)) || decide (y=("ValueError" : Str))
structure XFacts (K:PySem.W.Frag) (mg:Str->Option Value):Prop where
 ve:mg "ValueError" = none
 cl:∀ y∈zef,∃ C,PySem.W.nsIn K mainGlobals y=some (some (.ref C))/\mg y=some (.ref C)/\XCls K C
 sub:∀ x∈zef,∀ y∈zef,∀ C C',PySem.W.nsIn K mainGlobals x=some (some (.ref C))->PySem.W.nsIn K mainGlobals y=some (some (.ref C'))->PySem.W.kitOne K (.ref C) (.ref C')=some (subX x y)
 subV:∀ x∈zef,∀ C,PySem.W.nsIn K mainGlobals x=some (some (.ref C))->PySem.W.kitOne K (.ref C) (.type "ValueError")=some true
 exm:∀ x∈zef,∀ C C',PySem.W.nsIn K mainGlobals x=some (some (.ref C))->PySem.W.nsIn K mainGlobals "FitError" = some (some (.ref C'))->PySem.W.exmOne K (.ref C) (.ref C')=some true
def spR (K:PySem.W.Frag) (n:Nat) (φ:List D->Option W):Sp:=fun vs H Q E=>∃ F ds x C,Same F H/\DenL K F ds vs/\ds.length=n/\φ ds=some (.val (.exc x))/\PySem.W.nsIn K mainGlobals x=some (some (.ref C)) /\
 ∀ H' F',Same H H'->Same F F'->Same F' H'->(∀ a o,F' a=some o->F a=some o\/H a=none)->E (.ref C) none H'
def yef (X:Cx) (x:Str) (n:Nat) (φ:List D->Option W):Prop:=∃ (k:Nat) (f:Addr) (fd:FuncData) (ps:List Str),
 FnOk X.prog X.w X.K X.mg X.base (CX1 X.prog X.w) k f fd ps (spR X.K n φ)/\Room k X.A/\X.mg x=some (.ref f)/\PySem.W.keepIn X.K (.ref f)=true/\Binds X.K fd ps []
section
variable {X:Cx} {pins:List (Addr×Obj)} {σ:L2.St} {H:Hp} {s:Shared} {E':Value->Shared->Prop} {e:Expr} {es:List Expr} {pos:Pos}
end
section
variable {X:Cx} {e:Expr} {es:List Expr} {ρ:RhoS} {pos:Pos} {ds:List D}
end
end DL
namespace DL
open PySem L2 PyProof.Rows
def isX (ys:List Str):D->Option Bool
 | .exc x=>if x∈zef then some (ys.any (subX x)) else none
 | .non=>some false
 | _=>none
section
variable {X:Cx} {a e:Expr} {ρ:Rho} {pos:Pos}
end
end DL
namespace DL
open PySem L2 PyProof.Rows
section
variable {X:Cx} {pins:List (Addr×Obj)} {σ:L2.St} {H:Hp} {s:Shared}
end
end DL
namespace DL
open PySem L2 PyProof.Rows
mutual
def toP:D->PyData
 | .non=>.none
 | .bl b=>.bool b
 | .int i=>.int i
 | .tup l=>.tuple (toPs l)
 | .lst l=>.list (toPs l)
 | .exc _=>.none
def toPs:List D->List PyData
 | []=>[]
 | d::l=>toP d::toPs l
end
mutual
def dOk:Nat->D->Bool
 | _,.non=>true
 | _,.bl _=>true
 | _,.int _=>true
 | 0,.tup _=>false
 | n+1,.tup l=>dOkL n l
 | 0,.lst _=>false
 | n+1,.lst l=>dOkL n l
 | _,.exc _=>false
def dOkL:Nat->List D->Bool
 | _,[]=>true
 | n,d::l=>dOk n d && dOkL n l
end
mutual
def eqD:D->D->Bool
 | .non,.non=>true
 | .bl a,.bl b=>a == b
 | .bl a,.int j=>(if a then 1 else 0) == j
 | .int i,.bl b=>i == (if b then 1 else 0)
 | .int i,.int j=>i == j
 | .tup l,.tup m=>eqL l m
 | .lst l,.lst m=>eqL l m
 | _,_=>false
def eqL:List D->List D->Bool
 | [],[]=>true
 | d::l,e::m=>eqD d e && eqL l m
 | _,_=>false
end
mutual
theorem zlh:∀ (n m:Nat) (d e:D),dOk n d=true->dOk m e=true->PyData.eqv (toP d) (toP e)=eqD d e
 | n,m,.tup l,.tup k,h1,h2=>by
  cases n with
  | zero=>simp only [dOk] at h1;cases h1
  | succ n=>
   cases m with
   | zero=>simp only [dOk] at h2;cases h2
   | succ m=>
    simp only [dOk] at h1 h2;simp only [toP,PyData.eqv,eqD];exact eqv_L n m l k h1 h2
 | n,m,.lst l,.lst k,h1,h2=>by
  cases n with
  | zero=>simp only [dOk] at h1;cases h1
  | succ n=>
   cases m with
   | zero=>simp only [dOk] at h2;cases h2
   | succ m=>
    simp only [dOk] at h1 h2;simp only [toP,PyData.eqv,eqD];exact eqv_L n m l k h1 h2
 | n,m,.exc _,_,h1,_=>by simp only [dOk] at h1;cases h1
 | n,m,d,.exc _,_,h2=>by simp only [dOk] at h2;cases h2
 | n,m,.non,.non,_,_=>by simp only [toP,PyData.eqv,eqD]
 | n,m,.non,.bl _,_,_=>by simp only [toP,PyData.eqv,eqD]
 | n,m,.non,.int _,_,_=>by simp only [toP,PyData.eqv,eqD]
 | n,m,.non,.tup _,_,_=>by simp only [toP,PyData.eqv,eqD]
 | n,m,.non,.lst _,_,_=>by simp only [toP,PyData.eqv,eqD]
 | n,m,.bl _,.non,_,_=>by simp only [toP,PyData.eqv,eqD]
 | n,m,.bl _,.bl _,_,_=>by simp only [toP,PyData.eqv,eqD]
 | n,m,.bl _,.int _,_,_=>by simp only [toP,PyData.eqv,eqD]
 | n,m,.bl _,.tup _,_,_=>by simp only [toP,PyData.eqv,eqD]
 | n,m,.bl _,.lst _,_,_=>by simp only [toP,PyData.eqv,eqD]
 | n,m,.int _,.non,_,_=>by simp only [toP,PyData.eqv,eqD]
 | n,m,.int _,.bl _,_,_=>by simp only [toP,PyData.eqv,eqD]
 | n,m,.int _,.int _,_,_=>by simp only [toP,PyData.eqv,eqD]
 | n,m,.int _,.tup _,_,_=>by simp only [toP,PyData.eqv,eqD]
 | n,m,.int _,.lst _,_,_=>by simp only [toP,PyData.eqv,eqD]
 | n,m,.tup _,.non,_,_=>by simp only [toP,PyData.eqv,eqD]
 | n,m,.tup _,.bl _,_,_=>by simp only [toP,PyData.eqv,eqD]
 | n,m,.tup _,.int _,_,_=>by simp only [toP,PyData.eqv,eqD]
 | n,m,.tup _,.lst _,_,_=>by simp only [toP,PyData.eqv,eqD]
 | n,m,.lst _,.non,_,_=>by simp only [toP,PyData.eqv,eqD]
 | n,m,.lst _,.bl _,_,_=>by simp only [toP,PyData.eqv,eqD]
 | n,m,.lst _,.int _,_,_=>by simp only [toP,PyData.eqv,eqD]
 | n,m,.lst _,.tup _,_,_=>by simp only [toP,PyData.eqv,eqD]
theorem eqv_L:∀ (n m:Nat) (l k:List D),dOkL n l=true->dOkL m k=true->PyData.eqvAll (toPs l) (toPs k)=eqL l k
 | n,m,[],[],_,_=>by simp only [toPs,PyData.eqvAll,eqL]
 | n,m,d::l,e::k,h1,h2=>by
  simp only [dOkL,Zl] at h1 h2;simp only [toPs,PyData.eqvAll,eqL];rw [zlh n m d e h1.1 h2.1,eqv_L n m l k h1.2 h2.2]
 | n,m,[],_::_,_,_=>by simp only [toPs,PyData.eqvAll,eqL]
 | n,m,_::_,[],_,_=>by simp only [toPs,PyData.eqvAll,eqL]
end
mutual
theorem zoi:∀ (n:Nat) (d:D),dOk n d=true->(toP d).canLay0=true/\(toP d).depth<=n
 | _,.non,_=>by simp [toP,PyData.canLay0,PyData.depth]
 | _,.bl _,_=>by simp [toP,PyData.canLay0,PyData.depth]
 | _,.int _,_=>by simp [toP,PyData.canLay0,PyData.depth]
 | 0,.tup _,h=>by simp only [dOk] at h;cases h
 | n+1,.tup l,h=>by
  simp only [dOk] at h;obtain⟨a,b⟩:=lay_L n l h
  simp only [toP,PyData.canLay0,PyData.depth];exact⟨a,by omega⟩
 | 0,.lst _,h=>by simp only [dOk] at h;cases h
 | n+1,.lst l,h=>by
  simp only [dOk] at h;obtain⟨a,b⟩:=lay_L n l h
  simp only [toP,PyData.canLay0,PyData.depth];exact⟨a,by omega⟩
 | _,.exc _,h=>by simp only [dOk] at h;cases h
theorem lay_L:∀ (n:Nat) (l:List D),dOkL n l=true->PyData.canLayAll0 (toPs l)=true/\PyData.depthAll (toPs l)<=n
 | _,[],_=>by simp [toPs,PyData.canLayAll0,PyData.depthAll]
 | n,d::l,h=>by
  simp only [dOkL,Zl] at h;obtain⟨a,b⟩:=zoi n d h.1
  obtain⟨c,e⟩:=lay_L n l h.2
  simp only [toPs,PyData.canLayAll0,PyData.depthAll,Zl];exact⟨⟨a,c⟩,by omega⟩
end
section
variable {X:Cx} {pins:List (Addr×Obj)} {σ:L2.St} {H F:Hp} {s:Shared}
mutual
theorem Bx (I:Inv X pins σ H s) (sF:Same F H):∀ (n:Nat) (d:D) {v:V} {u:Value},dOk n d=true->Den X.K F d v->RelV v u->∃ as,Reads s.heap u (toP d) as
 | _,.non,v,u,_,h,r=>by rw [h.non] at r;cases (show u=Value.none from r);exact⟨_,.none⟩
 | _,.bl b,v,u,_,h,r=>by rw [h.bl] at r;cases (show u=Value.bool b from r);exact⟨_,.bool b⟩
 | _,.int i,v,u,_,h,r=>by
  rw [h.int] at r;obtain⟨t,e⟩:=(show ∃ t,u=Value.int i t from r)
  subst e;exact⟨_,.int i t⟩
 | 0,.tup _,_,_,h,_,_=>by simp only [dOk] at h;cases h
 | n+1,.tup l,v,u,hd,h,r=>by
  simp only [dOk] at hd;obtain⟨a,xs,e,sq,q⟩:=h.tup
  subst e;cases (show u=Value.ref a from r)
  obtain⟨its,rs,⟨o,h1,h2,k,h3⟩,_⟩:=I.tuple (Same.tup sF sq)
  obtain⟨as,ra⟩:=reads_L I sF n l hd q rs
  exact⟨_,.tuple h1 h2 h3 (by simpa using ra)⟩
 | 0,.lst _,_,_,h,_,_=>by simp only [dOk] at h;cases h
 | n+1,.lst l,v,u,hd,h,r=>by
  simp only [dOk] at hd;obtain⟨a,xs,e,sq,q⟩:=h.lst
  subst e;cases (show u=Value.ref a from r)
  obtain⟨its,rs,⟨o,k,h1,h2,h3⟩,_⟩:=I.list (sF.seq sq)
  obtain⟨as,ra⟩:=reads_L I sF n l hd q rs
  exact⟨_,.list h1 h2 h3.2 (by simpa using ra)⟩
 | _,.exc _,_,_,h,_,_=>by simp only [dOk] at h;cases h
theorem reads_L (I:Inv X pins σ H s) (sF:Same F H):∀ (n:Nat) (l:List D) {xs:List V} {us:List Value},dOkL n l=true->DenL X.K F l xs->Vals xs us->∃ as,ReadsAll s.heap us (toPs l) as
 | _,[],xs,us,_,h,r=>by
  rw [h.inv_nil] at r;cases r;exact⟨_,.nil⟩
 | n,d::l,xs,us,hd,h,r=>by
  simp only [dOkL,Zl] at hd;obtain⟨v,vs,e,q1,q2⟩:=h.inv_cons
  subst e;cases r with
  | cons r1 r2=>
   obtain⟨as,ra⟩:=Bx I sF n d hd.1 q1 r1
   obtain⟨bs,rb⟩:=reads_L I sF n l hd.2 q2 r2
   exact⟨_,.cons ra rb⟩
end
end
section
variable {X:Cx}
theorem zdx {d:D} (h:dOk 50 d=true):SeqAt.shaped (toP d)=true:=by
 obtain⟨a,b⟩:=zoi 50 d h
 unfold SeqAt.shaped;rw [a,Bool.true_and];exact decide_eq_true (by omega)
def zuy (K:PySem.W.Frag) (x y:D) (k:Bool):R2:=fun v u H Q=>∃ F,Same F H/\Den K F x v/\Den K F y u/\Q (.bl k) H
theorem zsg {x y:D} (hu:X.A.units+64<cLine) (hx:dOk 50 x=true) (hy:dOk 50 y=true):zag X .Eq x y (eqD x y):=by
 refine⟨zuy X.K x y (eqD x y),?_,fun H F v u Q s qv qu q=>⟨F,s,qv,qu,q⟩⟩
 intro pins s σ H v u vv uu Q I r1 r2 ⟨F,sF,q1,q2,q⟩;obtain⟨as,ra⟩:=Bx I sF 50 x hx q1 r1
 obtain⟨bs,rb⟩:=Bx I sF 50 y hy q2 r2
 refine eq_dataH ra rb (zdx hx) (zdx hy) hu ?_;rw [zlh 50 50 x y hx hy];exact⟨.bl _,H,I,rfl,q⟩
theorem zsf {x y:D} (hu:X.A.units+64<cLine) (hx:dOk 50 x=true) (hy:dOk 50 y=true):zag X .NotEq x y (!eqD x y):=by
 refine⟨zuy X.K x y (!eqD x y),?_,fun H F v u Q s qv qu q=>⟨F,s,qv,qu,q⟩⟩
 intro pins s σ H v u vv uu Q I r1 r2 ⟨F,sF,q1,q2,q⟩;obtain⟨as,ra⟩:=Bx I sF 50 x hx q1 r1
 obtain⟨bs,rb⟩:=Bx I sF 50 y hy q2 r2
 refine ne_dataH ra rb (zdx hx) (zdx hy) hu ?_;rw [zlh 50 50 x y hx hy];exact⟨.bl _,H,I,rfl,q⟩
theorem ydz {x:D} (hx:dOk 50 x=true):∀ (l:List D),dOkL 49 l=true->((toPs l).any fun y=>PyData.eqv y (toP x))=l.any fun y=>eqD y x
 | [],_=>rfl
 | d::l,h=>by
  simp only [dOkL,Zl] at h;simp only [toPs,List.any_cons];rw [zlh 49 50 d x h.1 hx,ydz hx l h.2]
theorem ydh {x:D} {l:List D} (hu:X.A.units+64<cLine) (hx:dOk 50 x=true) (hy:dOkL 49 l=true):zag X .In x (.lst l) (l.any fun y=>eqD y x):=by
 refine⟨zuy X.K x (.lst l) _,?_,fun H F v u Q s qv qu q=>⟨F,s,qv,qu,q⟩⟩
 intro pins s σ H v u vv uu Q I r1 r2 ⟨F,sF,q1,q2,q⟩;obtain⟨as,ra⟩:=Bx I sF 50 x hx q1 r1
 obtain⟨bs,rb⟩:=Bx I sF 50 (.lst l) (by simp only [dOk];exact hy) q2 r2
 simp only [toP] at rb;obtain⟨a,b⟩:=zoi 50 x hx
 obtain⟨a2,b2⟩:=lay_L 49 l hy
 refine SeqAt.in_list_reads rb ra a2 a (by have:=Nat.min_le_right (PyData.depthAll (toPs l)) (toP x).depth;omega) ?_;rw [ydz hx l hy];exact⟨.bl _,H,I,rfl,q⟩
theorem zwl {x:D} {l:List D} (hu:X.A.units+64<cLine) (hx:dOk 50 x=true) (hy:dOkL 49 l=true):zag X .NotIn x (.lst l) (!(l.any fun y=>eqD y x)):=by
 refine⟨zuy X.K x (.lst l) _,?_,fun H F v u Q s qv qu q=>⟨F,s,qv,qu,q⟩⟩
 intro pins s σ H v u vv uu Q I r1 r2 ⟨F,sF,q1,q2,q⟩;obtain⟨as,ra⟩:=Bx I sF 50 x hx q1 r1
 obtain⟨bs,rb⟩:=Bx I sF 50 (.lst l) (by simp only [dOk];exact hy) q2 r2
 simp only [toP] at rb;obtain⟨a,b⟩:=zoi 50 x hx
 obtain⟨a2,b2⟩:=lay_L 49 l hy
 refine SeqAt.notIn_list_reads rb ra a2 a (by have:=Nat.min_le_right (PyData.depthAll (toPs l)) (toP x).depth;omega) ?_;rw [ydz hx l hy];exact⟨.bl _,H,I,rfl,q⟩
end
end DL
namespace DL
open PySem L2 PyProof.Rows
def cloF (cells:List (Str×Addr)):List (Str×NameKind)->List (Str×Addr)->List (Str×Addr)
 | [],cs=>cs
 | (n,k)::r,cs=>cloF cells r (if (k == NameKind.free)=true then (n,(cells.lookup n).getD 0)::cs else cs)
theorem zzc {scope:Scope} {env:Env} (h:∀ y∈scope.names,y.2=.free->∃ c,env.cells.lookup y.1=some c):closureFor scope env=pure (cloF env.cells scope.names []):=by
 have key:∀ (l:List (Str×NameKind)) (cs:List (Str×Addr)),(∀ y∈l,y.2=.free->∃ c,env.cells.lookup y.1=some c) ->
   (forIn l cs (fun x cs=>if (x.2 == NameKind.free)=true then do let a <- cellOf env x.1;pure (ForInStep.yield ((x.1,a)::cs)) else pure (ForInStep.yield cs)):Sem (List (Str×Addr)))=pure (cloF env.cells l cs):=by
  intro l;induction l with
  | nil=>intro cs _;rfl
  | cons y l ih=>
   intro cs h;rw [Ua];obtain⟨n,k⟩:=y
   have ih':=fun cs=>ih cs fun z hz=>h z (Yp _ hz)
   by_cases e:(k == NameKind.free)=true
   ·obtain⟨c,hc⟩:=h (n,k) Wi (by cases k <;> first | rfl | cases e)
    have hcell:cellOf env n=pure c:=by unfold cellOf;rw [hc]
    simp only [e,if_true,hcell,pure_bind];rw [ih'];simp only [cloF,e,if_true,hc,Vg]
   ·simp only [e,if_false,pure_bind,Y3];rw [ih'];simp only [cloF,e,if_false,Y3]
 unfold closureFor;have:=key scope.names [] h
 simp only [bind_pure];first | exact this | (refine Eq.trans ?_ this;rfl) | (simp at this |-;exact this)
theorem zec {cells:List (Str×Addr)}:∀ (l:List (Str×NameKind)) (cs:List (Str×Addr)),(∀ y∈l,y.2=.free->∃ c,cells.lookup y.1=some c)->(∀ p∈cs,cells.lookup p.1=some p.2)->∀ p∈cloF cells l cs,cells.lookup p.1=some p.2
 | [],cs,_,h,p,hp=>h p hp
 | (n,k)::r,cs,hl,h,p,hp=>by
  unfold cloF at hp;refine zec r _ (fun z hz=>hl z (Yp _ hz)) (fun q hq=>?_) p hp;by_cases e:(k == NameKind.free)=true
  ·rw [if_pos e] at hq;rcases Zf.mp hq with z | z
   ·subst z;obtain⟨c,hc⟩:=hl (n,k) Wi (by cases k <;> first | rfl | cases e)
    simp only [hc,Vg]
   ·exact h q z
  ·rw [if_neg e] at hq;exact h q hq
theorem zjw {cells:List (Str×Addr)}:∀ (l:List (Str×NameKind)) (cs:List (Str×Addr)) (p:Str×Addr),p∈cs->p∈cloF cells l cs
 | [],_,_,h=>h
 | (n,k)::r,cs,p,h=>by
  unfold cloF;refine zjw r _ p ?_;by_cases e:(k == NameKind.free)=true
  ·rw [if_pos e];exact Yp _ h
  ·rw [if_neg e];exact h
theorem zid {cells:List (Str×Addr)}:∀ (l:List (Str×NameKind)) (cs:List (Str×Addr)) (x:Str),(x,NameKind.free)∈l->∃ c,(x,c)∈cloF cells l cs
 | (n,k)::r,cs,x,h=>by
  unfold cloF;rcases Zf.mp h with z | z
  ·cases z;have ef:(NameKind.free == NameKind.free)=true:=rfl;simp only [ef,if_true];exact⟨_,zjw r _ _ Wi⟩
  ·exact zid r _ x z
theorem Bu {α:Type}:∀ {l:List (Str×α)} {x:Str} {c:α},l.lookup x=some c->(x,c)∈l
 | [],_,_,h=>by cases h
 | (n,a)::r,x,c,h=>by
  rw [Wv] at h;cases q:(x == n) with
  | true=>rw [q] at h;cases h;rw [eq_of_beq q];exact Wi
  | false=>rw [q] at h;exact Yp _ (Bu h)
theorem zcx {α:Type}:∀ {l:List (Str×α)} {x:Str} {c:α},(x,c)∈l->∃ c',l.lookup x=some c'
 | (n,a)::r,x,c,h=>by
  rw [Wv];cases q:(x == n) with
  | true=>exact⟨_,rfl⟩
  | false=>
   rcases Zf.mp h with z | z
   ·cases z;rw [beq_self_eq_true] at q;cases q
   ·exact zcx z
end DL
namespace DL
open PySem L2 PyProof.Rows
theorem zbr {scope:Scope} {env:Env} {x:Str}:(relabel scope env).names.lookup x=(scope.names.lookup x).map fun k=>if (k == NameKind.free && env.scope.kind == .function && env.kindOf x == some .cell)=true then NameKind.cell else k:=by
 unfold relabel;simp only
 generalize scope.names=l;induction l with
 | nil=>rfl
 | cons y l ih=>
  obtain⟨n,k⟩:=y
  rw [Yk];by_cases hc:(k == NameKind.free && env.scope.kind == .function && env.kindOf n == some .cell)=true
  ·simp only [hc,if_true];rw [Wv,Wv];cases q:(x == n) with
   | true=>have:=eq_of_beq q;subst this;simp only [Wk];rw [if_pos hc]
   | false=>simpa using ih
  ·simp only [hc];rw [if_neg (by simp),Wv,Wv];cases q:(x == n) with
   | true=>have:=eq_of_beq q;subst this;simp only [Wk];rw [if_neg hc]
   | false=>simpa using ih
def blk (X:Cx) (scope:Scope) (cl:List (Str×Addr)) (C:Addr) (N':List Str) (s₀:Shared) (H₀:Hp) (ex:List Addr):Cx:=
 {X with N:=N',s₀:=s₀,H₀:=H₀,env:=compEnvC scope cl C X.env,outer:=X.stack,stack:=X.stack,ex:=ex,fn:=fun _=>false,pn:=[],xe:=fun _ _=>False}
section
variable {X:Cx} {pins:List (Addr×Obj)} {σ:L2.St} {H:Hp} {s:Shared} {scope:Scope} {C:Addr} {N':List Str} {fp:List Addr}
theorem blk_ok (I:Inv X pins σ H s) (hk:scope.kind=.function) (hcell:∀ y∈scope.names,y.2 ≠ .cell) (hfree:∀ y∈scope.names,y.2=.free->∃ c,X.env.cells.lookup y.1=some c)
  (hC:s.heap.objs.size<=C) (hfp:∀ b∈fp,FpOk X pins H b) (hfo:∀ b∈fp,∃ o,s.heap.get? b=some o):(blk X scope (cloF X.env.cells scope.names []) C N' s H fp).Ok:=by
 have hcl:∀ {x c},(cloF X.env.cells scope.names []).lookup x=some c->X.env.cells.lookup x=some c:=fun h=>zec scope.names [] hfree (fun p hp=>nomatch hp) _ (Bu h)
 refine⟨I.ok.mod,hk,I.ok.glob,I.ok.blt,hC,fun x y c h1 h2=>I.ok.inj x y c (hcl h1) (hcl h2),fun x h=>?_,fun x c h=>absurd h (by simp [blk]),I.ok.hd,I.ok.frames,.inl rfl,fun b hb=>?_,I.bs,Ya I.ok.bsz I.sz,fun b o e hb=>?_,fun b hb z=>?_,I.stack,I.stkFree⟩
 ·have hx:(relabel scope X.env).names.lookup x=some .cell\/(relabel scope X.env).names.lookup x=some .free:=h;rw [zbr] at hx;have:scope.names.lookup x=some .free:=by
   cases q:scope.names.lookup x with
   | none=>rw [q] at hx;rcases hx with z | z <;> cases z
   | some k=>
    rw [q] at hx;have hm:=Bu q;cases k with
    | free=>rfl
    | cell=>exact absurd rfl (hcell _ hm)
    | _=>rcases hx with z | z <;> simp at z
  obtain⟨c,hc⟩:=zid scope.names [] x (Bu this)
  exact zcx hc
 ·obtain⟨o,e⟩:=hfo b hb
  refine⟨?_,fun x c h=>(hfp b hb).2.2.2.2.1 x c (hcl h)⟩
  exact Z8 (Zd (Zs e) hC)
 ·rcases (hfp b hb).2.2.2.1 with z | z
  ·exact I.ok.noex b o e z
  ·exact absurd (Zd (Zs e) (Ya I.ok.bsz z)) (Nat.lt_irrefl _)
 ·rcases Zf.mp (I.stkSub b z) with e | e
  ·exact (hfp b hb).2.1 e
  ·exact (hfp b hb).2.2.1 e
theorem ydr {s':Shared} {h':Heap} {t':Nat} {σ':L2.St} (I:Inv X pins σ H s) (hk:scope.kind=.function) (hcell:∀ y∈scope.names,y.2 ≠ .cell) (hfree:∀ y∈scope.names,y.2=.free->∃ c,X.env.cells.lookup y.1=some c)
  (hC:C=s.heap.objs.size) (hfp:∀ b∈fp,FpOk X pins H b) (hfo:∀ b∈fp,∃ o,s.heap.get? b=some o) {m:Str->Option Value} (hns:h'.Ns C m) (hkp:∀ b o,s.heap.get? b=some o->h'.get? b=some o)
  (hl:σ'.length=N'.length)
  (hv:∀ (i:Nat) (x:Str) (v:V),N'[i]? = some x->σ'[i]? = some (some v)->scope.names.lookup x=some .free/\X.env.kindOf x=some .cell/\∃ j:Nat,X.N[j]? = some x/\σ[j]? = some (some v)) :
  Inv (blk X scope (cloF X.env.cells scope.names []) C N' s H fp) [] σ' H {s with heap:=h',toks:=t'}:=by
 have hcl:∀ {x c},(cloF X.env.cells scope.names []).lookup x=some c->X.env.cells.lookup x=some c:=fun h=>zec scope.names [] hfree (fun p hp=>nomatch hp) _ (Bu h)
 refine⟨blk_ok I hk hcell hfree (Nat.le_of_eq hC.symm) hfp hfo,rfl,I.bare,Un.kept hkp,⟨m,hns,fun i x v e1 e2 e3=>?_⟩,fun x c e=>?_,?_,fun x c e=>I.freeC x c (hcl e),fun p hp=>?_,I.hok.kept hkp,hl⟩
 ·obtain⟨f1,f2,j,g1,g2⟩:=hv i x v e1 e2
  obtain⟨m0,hn0,hl0⟩:=I.loc
  obtain⟨u,r,lk⟩:=hl0 j x v g1 g2 (.inr (.inl f2))
  refine⟨u,r,.inr ⟨.inl ?_,?_⟩⟩
  ·show (relabel scope X.env).names.lookup x=some .cell;rw [zbr,f1];have:(X.env.scope.kind == ScopeKind.function)=true:=by rw [I.ok.kind];rfl
   simp [this,f2]
  ·rcases lk with⟨z,_⟩ | ⟨_,c,hc,hcell'⟩
   ·rw [f2] at z;cases z
   ·obtain⟨c',hc'⟩:=zid scope.names [] x (Bu f1)
    obtain⟨c2,hc2⟩:=zcx hc'
    have:=hcl hc2
    rw [hc] at this;cases this;obtain⟨o,ho,hd⟩:=hcell'
    exact⟨c,hc2,o,hkp _ _ ho,hd⟩
 ·obtain⟨v,o,ho,hd⟩:=I.cell x c (hcl e)
  exact⟨v,o,hkp _ _ ho,hd⟩
 ·show H C=none;rw [hC];exact I.hok.fresh (Zj _)
 ·exact nomatch hp
theorem yds {cl:List (Str×Addr)} {σ':L2.St} {H':Hp} {s':Shared} {pl:List (Addr×Obj)} (I:Inv X pins σ H s) (hfp:∀ b∈fp,FpOk X pins H b) (J:Inv (blk X scope cl C N' s H fp) pl σ' H' s'):Inv X pins σ H' s':=
 I.call' (ch:=fp) J.os J.base J.hok J.bare fun b hb=>⟨(hfp b hb).2.2.2.1,(hfp b hb).2.1,(hfp b hb).2.2.2.2.1,(hfp b hb).2.2.2.2.2⟩
end
end DL
namespace DL
open PySem L2 PyProof.Rows
section
variable {K:PySem.W.Frag} {H0 Fc F H:Hp} {σ:L2.St} {ρ:Rho}
theorem ER.mutF (R:ER K H0 Fc F H σ ρ) {a:Addr} {o:HO} (hF:F a=none) (h0:H0 a=none):ER K H0 Fc F (upd H a o) σ ρ:=
 ⟨fun b u e=>by rw [Gh (fun z=>by subst z;rw [hF] at e;cases e)];exact R.sub b u e,fun b u e=>by rw [Gh (fun z=>by subst z;rw [h0] at e;cases e)];exact R.same b u e,R.base,R.new,R.env⟩
theorem ER.here (R:ER K H0 Fc F H σ ρ):ER K H F F H σ ρ:=⟨R.sub,Same.refl _,Same.refl _,fun a o e=>.inl e,R.env⟩
theorem ER.there {F' H':Hp} {σ':L2.St} {ρ':Rho} (R:ER K H0 Fc F H σ ρ) (R':ER K H F F' H' σ' ρ'):ER K H0 Fc F' H' σ' ρ':=
 ⟨R'.sub,R.same.trans R'.same,R.base.trans R'.base,fun a o e=>(R'.new a o e).elim (R.new a o) fun z=>.inr (R.same.free z),R'.env⟩
theorem ER.fewer {ρ':Rho} (R:ER K H0 Fc F H σ ρ) (h:∀ (i:Nat) d,ρ'[i]? = some (some d)->ρ[i]? = some (some d)):ER K H0 Fc F H σ ρ':=⟨R.sub,R.same,R.base,R.new,fun i d e=>R.env i d (h i d e)⟩
end
def DIe (X:Cx) (tg iter:Expr) (ρ:Rho) (items:List D):Prop:=∀ H0 Fc,PI X tg iter (fun σ H R=>∃ F,ER X.K H0 Fc F H σ ρ/\∀ J H' F',Same F F'->ER X.K H0 Fc F' H' σ ρ->Walks X.K F' J items->R J H')
def DGe (X:Cx) (tg:Expr) (d:D) (ρ ρ':Rho):Prop:=∀ H0 Fc,PG X tg (fun v σ H Q=>σ.length=X.N.length/\∃ F,ER X.K H0 Fc F H σ ρ/\Den X.K F d v/\∀ σ',σ'.length=X.N.length->ER X.K H0 Fc F H σ' ρ'->Q σ' H)
def zaw (f:D->Option (Option D)):List D->Option (List D)
 | []=>some []
 | d::l=>match f d with
  | none=>none
  | some none=>zaw f l
  | some (some e)=>(zaw f l).map fun r=>e::r
def DTs (X:Cx) (ifs:List Expr) (ρ:Rho) (k:Bool):Prop:=(ifs=[]/\k=true)\/∃ c,ifs=[c]/\DT X c ρ k
section
variable {X:Cx} {pins:List (Addr×Obj)} {σ:L2.St} {H1:Hp} {s2:Shared} {tg elt iter:Expr} {ifs:List Expr} {scope:Scope} {pos:Pos} {fp:List Addr} {it:Addr} {tn:Nat->Heap->Prop} {J:It} {N':List Str} {items res:List D} {f:D->Option (Option D)} {ρ0:Rho}
def CInv (X:Cx) (scope:Scope) (C:Addr) (N':List Str) (s3:Shared) (H1:Hp) (D:Addr) (fp:List Addr) (tn:Nat->Heap->Prop) (items:List DL.D) (H0 Fc F1:Hp) (ρ0:Rho) (f:DL.D->Option (Option DL.D)) (res:List DL.D) (n:Nat) (s':Shared):Prop:=
 ∃ i σ1 Ha Fa ys done rest,Inv (blk X scope (cloF X.env.cells scope.names []) C N' s3 (upd H1 D (.lst [])) fp) [] σ1 Ha s'/\tn i s'.heap/\(∀ b∈fp,Ha b=none)/\n=items.length+1-i/\i<=items.length /\
   ER X.K H0 Fc Fa Ha σ1 ρ0/\Same F1 Fa/\Fa D=none/\Ha D=some (.lst ys)/\DenL X.K Fa done ys/\zaw f (items.drop i)=some rest/\done++rest=res/\done.length<=i
theorem zsd {H0 Fc F1:Hp} {ρ:Rho} {σ':L2.St} {RR:Value->Addr->Result->Shared->Prop} {E:Value->Shared->Prop} (I:Inv X pins σ H1 s2) (hcalm:X.calm=true) (T:Turn X.prog X.w X.K tg J fp it tn) (h0:tn 0 s2.heap) (hfp:∀ b∈fp,FpOk X pins H1 b)
  (hk:scope.kind=.function) (hcell:∀ y∈scope.names,y.2 ≠ .cell) (hfree:∀ y∈scope.names,y.2=.free->∃ c,X.env.cells.lookup y.1=some c)
  (R1:ER X.K H0 Fc F1 H1 σ ρ) (hl:σ'.length=N'.length) (hρ:∀ (i:Nat) d,ρ0[i]? = some (some d)->∃ v,σ'[i]? = some (some v)/\Den X.K F1 d v)
  (hv:∀ (i:Nat) (x:Str) (v:V),N'[i]? = some x->σ'[i]? = some (some v)->scope.names.lookup x=some .free/\X.env.kindOf x=some .cell/\∃ j:Nat,X.N[j]? = some x/\σ[j]? = some (some v))
  (wk:Walks X.K F1 J items) (hsz:items.length<=sizeLine) (hres:zaw f items=some res)
  (hblk:∀ (C:Addr) (s₀:Shared) (H₀:Hp) (d:D) (o:Option D),d∈items->f d=some o->∃ ρd,DGe (blk X scope (cloF X.env.cells scope.names []) C N' s₀ H₀ fp) tg d ρ0 ρd/\(∀ (i:Nat) d,ρ0[i]? = some (some d)->ρd[i]? = some (some d)) /\
   (match o with | none=>DTs (blk X scope (cloF X.env.cells scope.names []) C N' s₀ H₀ fp) ifs ρd false | some e=>DTs (blk X scope (cloF X.env.cells scope.names []) C N' s₀ H₀ fp) ifs ρd true/\DF (blk X scope (cloF X.env.cells scope.names []) C N' s₀ H₀ fp) elt ρd e))
  (kend:∀ (D C:Addr) (s5:Shared) (H' F':Hp) (ys:List V) (m:Str->Option Value),Inv X pins σ H' s5->s5.heap.Ns C m->H' C=none->C≠X.env.locals->X.s₀.heap.objs.size<=C->(∀ x c,X.env.cells.lookup x=some c->c≠C)->(∀ p∈X.pn++pins,p.1≠C) ->
   Same F1 F'->ER X.K H0 Fc F' H' σ ρ->F' D=none->H0 D=none->H' D=some (.lst ys)->DenL X.K F' res ys->RR (.ref D) C (.ok .next) s5)
  {D C:Addr} {s3:Shared} {h4:Heap} {tk:Nat} (I3:Inv X pins σ (upd H1 D (.lst [])) s3) (fo3:∀ b∈fp,∃ o,s3.heap.get? b=some o) (hfp3:∀ b∈fp,FpOk X pins (upd H1 D (.lst [])) b) (hC:s3.heap.objs.size=C) (J4:Inv (blk X scope (cloF X.env.cells scope.names []) C N' s3 (upd H1 D (.lst [])) fp) [] σ' (upd H1 D (.lst [])) {s3 with heap:=h4,toks:=tk}) (tn4:tn 0 h4)
  (CX:C≠X.env.locals/\X.s₀.heap.objs.size<=C/\(∀ x c,X.env.cells.lookup x=some c->c≠C)/\(∀ p∈X.pn++pins,p.1≠C)) (R4:ER X.K H0 Fc F1 (upd H1 D (.lst [])) σ' ρ0) (hFD:F1 D=none) (h0D:H0 D=none) :
  codeAny (model X.prog X.w) X.A (.compLoop (.ListComp elt [⟨tg,iter,ifs,0⟩] scope pos) 0 (.ref it) (.ref D) (compEnvC scope (cloF X.env.cells scope.names []) C X.env)) (RR (.ref D) C) {s3 with heap:=h4,toks:=tk}:=by
 refine codeAny_loop rfl (CInv X scope C N' s3 H1 D fp tn items H0 Fc F1 ρ0 f res) ?_ (items.length+1)
  ⟨0,σ',_,F1,[],[],res,J4,tn4,fun b hb=>(hfp3 b hb).1,rfl,Yi _,R4,Same.refl _,hFD,Gj,DenL.nil,hres,rfl,Yi _⟩
 rintro n s5 ⟨i,σ1,Ha,Fa,ys,done,rest,J5,tn5,fr5,rfl,hi,R5,sF5,hFD5,hD5,dn5,cl5,rs5,dl5⟩
 show wpAny _ X.A ((compTurn (.ListComp elt [⟨tg,iter,ifs,0⟩] scope pos) 0 (.ref it) (.ref D) (compEnvC scope (cloF X.env.cells scope.names []) C X.env)).onRaise (fun x=>do noteFrame x (compEnvC scope (cloF X.env.cells scope.names []) C X.env);theTreesLotGoes x)) _ _ s5;refine wpAny_noted ?_;rw [compTurn_list];have fx:∀ {Hx:Hp},(∀ b∈fp,Hx b=none)->∀ b∈fp,FpOk (blk X scope (cloF X.env.cells scope.names []) C N' s3 (upd H1 D (.lst [])) fp) [] Hx b:=fun hn b hb=>by
  refine⟨hn b hb,?_,?_,.inl hb,?_,fun p hp=>nomatch hp⟩
  ·obtain⟨o,e⟩:=fo3 b hb
   show b≠C;rw [<- hC];exact Z8 (Zs e)
  ·intro z;rcases Zf.mp (I.stkSub b z) with e | e
   ·exact (hfp b hb).2.1 e
   ·exact (hfp b hb).2.2.1 e
  ·intro x c h;exact (hfp b hb).2.2.2.2.1 x c (zec scope.names [] hfree (fun p hp=>nomatch hp) _ (Bu h))
 have ff:∀ {α:Type} {t:Sem α} {Q:α->Shared->Prop} {E':Value->Shared->Prop} {s:Shared},wpAny (model X.prog X.w) X.A t Q (fun _ _=>False) s->wpAny (model X.prog X.w) X.A t Q E' s:=fun h=>Ud h (fun _ _ q=>q) fun _ _ z=>z.elim
 have wk5:=wk i Ha (sF5.trans R5.sub);refine Zg (K4 (Zg ?_));by_cases hlt:i<items.length
 ·have hd:items[i]? = some items[i]:=Ze hlt;rw [Z1 hlt] at cl5;obtain⟨go,yl⟩:=wk5.1 _ hd
  refine ff (thn (T.item (blk X scope (cloF X.env.cells scope.names []) C N' s3 (upd H1 D (.lst [])) fp) rfl rfl rfl hcalm i [] s5 σ1 Ha (fun _ _=>False) J5 (fx fr5) tn5 go) fun r s6 ⟨u,hr,h6⟩=>?_);subst hr;refine Zg (ff (thn h6 fun _ s7 ⟨x,H7,J7,r7,y7,tn7,fr7⟩=>?_));obtain⟨F7,sF7,R7,q7,hD7,hFD7⟩:∃ F7,Same Fa F7/\ER X.K H0 Fc F7 H7 σ1 ρ0/\Den X.K F7 items[i] x/\H7 D=some (.lst ys)/\F7 D=none:=by
   rcases yl x H7 y7 with⟨e,q⟩ | ⟨p,xs,ds,hp,e,ex,ed,q⟩
   ·subst e;exact⟨Fa,Same.refl _,R5,q.mono sF5,hD5,hFD5⟩
   ·subst e ex;obtain⟨R8,s8⟩:=R5.lay (.tup xs) hp
    have npD:D≠p:=fun z=>by subst z;rw [hD5] at hp;cases hp
    refine⟨_,s8,R8,?_,by rw [Gh npD];exact hD5,by rw [Gh npD];exact hFD5⟩
    rw [ed];exact Den.tup_mk (SqT.of Gj) ((q.mono sF5).mono s8)
  have J8:=J7.pinned (fx fr7) (T.obj _ _ tn7);have fin:∀ {s9:Shared} {σ9:L2.St} {H9 F9:Hp} {zs:List V} {more left:List DL.D},Inv (blk X scope (cloF X.env.cells scope.names []) C N' s3 (upd H1 D (.lst [])) fp) ([]++zgs fp s7.heap) σ9 H9 s9->ER X.K H0 Fc F9 H9 σ9 ρ0->Same F1 F9->F9 D=none->H9 D=some (.lst zs)->DenL X.K F9 more zs ->
    zaw f (items.drop (i+1))=some left->more++left=res->more.length<=i+1 ->
    ∃ m,m<items.length+1-i/\CInv X scope C N' s3 H1 D fp tn items H0 Fc F1 ρ0 f res m s9:=by
   intro s9 σ9 H9 F9 zs more left J9 R9 sF9 hF9 hD9 dn9 cl9 rs9 dl9;refine⟨items.length+1-(i+1),by omega,i+1,σ9,H9,F9,zs,more,left,J9.unpinned,?_,fun b hb=>?_,rfl,hlt,R9,sF9,hF9,hD9,dn9,cl9,rs9,dl9⟩
   ·exact T.keep _ _ _ tn7 fun b hb o e=>(J9.pin (b,o) (Z6 _ (Z6 _ (zbj hb e)))).1
   ·obtain⟨o,e,_⟩:=T.obj _ _ tn7 b hb
    exact (J9.pin (b,o) (Z6 _ (Z6 _ (zbj hb e)))).2.1
  unfold zaw at cl5;cases hf:f items[i] with
  | none=>rw [hf] at cl5;cases cl5
  | some o=>
   rw [hf] at cl5;obtain⟨ρd,hG,hsub,hO⟩:=hblk C s3 (upd H1 D (.lst [])) items[i] o (Ka hlt) hf
   refine Zg (ff (thn (hG H0 Fc _ s7 σ1 H7 x u (fun σ9 H9=>H9=H7/\ER X.K H0 Fc F7 H7 σ9 ρd) J8 r7 ⟨J7.len,F7,R7,q7,fun σ9 hl9 R9=>⟨rfl,R9⟩⟩) fun _ s8 ⟨σ9,H9,J9,e9,R9⟩=>?_));subst e9;have tests:∀ k,DTs (blk X scope (cloF X.env.cells scope.names []) C N' s3 (upd H1 D (.lst [])) fp) ifs ρd k ->
     wpAny (model X.prog X.w) X.A (forIn ifs true fun c r=>if r=true then do let ok <- isTrue c (compEnvC scope (cloF X.env.cells scope.names []) C X.env) (eval c (compEnvC scope (cloF X.env.cells scope.names []) C X.env));pure (ForInStep.yield ok) else pure (ForInStep.yield r))
      (fun ok s'=>ok=k/\∃ H10 F10,Inv (blk X scope (cloF X.env.cells scope.names []) C N' s3 (upd H1 D (.lst [])) fp) ([]++zgs fp s7.heap) σ9 H10 s'/\Same F7 F10/\ER X.K H9 F7 F10 H10 σ9 ρd) (fun _ _=>False) s8:=by
    intro k hk;rcases hk with⟨e1,e2⟩ | ⟨c,e1,hT⟩
    ·subst e1 e2;exact wpAny_tests_nil ⟨rfl,H9,F7,J9,Same.refl _,R9.here⟩
    ·subst e1;refine wpAny_tests_one (thn (hT H9 F7 _ s8 σ9 H9 (fun b H10=>b=k/\∃ F10,Same F7 F10/\ER X.K H9 F7 F10 H10 σ9 ρd) J9 ⟨F7,R9.here,fun H10 F10 s10 R10=>⟨rfl,F10,s10,R10⟩⟩) fun b s' ⟨H10,J10,e10,F10,s10,R10⟩=>⟨e10,H10,F10,J10,s10,R10⟩)
   have dfree:∀ {F10 H10:Hp} {σ':L2.St} {ρ':Rho},ER X.K H9 F7 F10 H10 σ' ρ'->H10 D=some (.lst ys)/\F10 D=none:=fun {F10 H10 σ' ρ'} R10=>by
    refine⟨R10.same D _ hD7,?_⟩
    cases z:F10 D with
    | none=>rfl
    | some o=>
     rcases R10.new D o z with w | w
     ·rw [hFD7] at w;cases w
     ·rw [hD7] at w;cases w
   cases o with
   | none=>
    refine Zg (ff (thn (tests false hO) fun ok s9 ⟨eok,H10,F10,J10,s10,R10⟩=>?_));subst eok;obtain⟨hD10,hF10⟩:=dfree R10
    refine Zy ⟨rfl,fin J10 ((R9.there R10).fewer hsub) ((sF5.trans sF7).trans s10) hF10 hD10 ((dn5.mono sF7).mono s10) cl5 rs5 (by omega)⟩
   | some e=>
    obtain⟨hT,hE⟩:=hO
    obtain⟨left,hleft,eleft⟩:=Zb.mp cl5
    subst eleft;refine Zg (ff (thn (tests true hT) fun ok s9 ⟨eok,H10,F10,J10,s10,R10⟩=>?_));subst eok;obtain⟨hD10,hF10⟩:=dfree R10
    have R10':=R9.there R10;rw [if_pos rfl];refine Zg (Zg (ff (thn (hE H10 F10 _ s9 σ9 H10 (fun v H11=>∃ F11,Same F10 F11/\ER X.K H10 F10 F11 H11 σ9 ρd/\Den X.K F11 e v) J10 ⟨F10,R10'.here,fun v H11 F11 s11 R11 q11=>⟨F11,s11,R11,q11⟩⟩) fun uv s11 ⟨v,H11,J11,r11,F11,sF11,R11,q11⟩=>?_)));have hD11:H11 D=some (.lst ys):=R11.same D _ hD10;have hF11:F11 D=none:=by
     cases z:F11 D with
     | none=>rfl
     | some o=>
      rcases R11.new D o z with w | w
      ·rw [hF10] at w;cases w
      ·rw [hD10] at w;cases w
    have hyl:ys.length=done.length:=dn5.length;have R11':=R10'.there R11;refine Zg (ff (thn (zji _ s11 σ9 H11 (.ref D) [v] (.ref D) [uv] (fun _ H12=>H12=upd H11 D (.lst (ys++[v]))) J11 rfl (.cons r11 .nil) ⟨D,ys,v,rfl,rfl,hD11,by omega,rfl⟩) fun _ s12 ⟨_,H12,J12,_,e12⟩=>?_));subst e12;refine Zy (Zy ⟨rfl,fin (zs:=ys++[v]) (more:=done++[e]) J12 ((R11'.mutF hF11 h0D).fewer hsub) (((sF5.trans sF7).trans s10).trans sF11) hF11 Gj ((((dn5.mono sF7).mono s10).mono sF11).append (DenL.cons q11 DenL.nil)) hleft (by rw [Vu];exact rs5) (by rw [Zw,Uy];omega)⟩)
 ·have e:i=items.length:=by omega
  subst e;rw [V5] at cl5;cases cl5;rw [Qv] at rs5;subst rs5;refine ff (thn (T.done (blk X scope (cloF X.env.cells scope.names []) C N' s3 (upd H1 D (.lst [])) fp) rfl rfl rfl hcalm _ [] s5 σ1 Ha (fun _ _=>False) J5 (fx fr5) tn5 (wk5.2 (Zj _))) fun r s6 ⟨hr,J6⟩=>?_);subst hr;obtain⟨m,hnm,_⟩:=J6.loc
  refine Zy (kend D C s6 Ha Fa ys m (yds I3 hfp3 J6) hnm J6.free CX.1 CX.2.1 CX.2.2.1 CX.2.2.2 sF5 ⟨R5.sub,R5.same,R5.base,R5.new,fun j d e=>?_⟩ hFD5 h0D hD5 dn5);obtain⟨v,g1,g2⟩:=R1.env j d e
  exact⟨v,g1,g2.mono sF5⟩
theorem zwj {H0 Fc F1:Hp} {ρ:Rho} {σ':L2.St} {RR:Value->Addr->Result->Shared->Prop} {E:Value->Shared->Prop} (I:Inv X pins σ H1 s2) (hcalm:X.calm=true) (T:Turn X.prog X.w X.K tg J fp it tn) (h0:tn 0 s2.heap) (hfp:∀ b∈fp,FpOk X pins H1 b)
  (hk:scope.kind=.function) (hcell:∀ y∈scope.names,y.2 ≠ .cell) (hfree:∀ y∈scope.names,y.2=.free->∃ c,X.env.cells.lookup y.1=some c)
  (R1:ER X.K H0 Fc F1 H1 σ ρ) (hl:σ'.length=N'.length) (hρ:∀ (i:Nat) d,ρ0[i]? = some (some d)->∃ v,σ'[i]? = some (some v)/\Den X.K F1 d v)
  (hv:∀ (i:Nat) (x:Str) (v:V),N'[i]? = some x->σ'[i]? = some (some v)->scope.names.lookup x=some .free/\X.env.kindOf x=some .cell/\∃ j:Nat,X.N[j]? = some x/\σ[j]? = some (some v))
  (wk:Walks X.K F1 J items) (hsz:items.length<=sizeLine) (hres:zaw f items=some res)
  (hblk:∀ (C:Addr) (s₀:Shared) (H₀:Hp) (d:D) (o:Option D),d∈items->f d=some o->∃ ρd,DGe (blk X scope (cloF X.env.cells scope.names []) C N' s₀ H₀ fp) tg d ρ0 ρd/\(∀ (i:Nat) d,ρ0[i]? = some (some d)->ρd[i]? = some (some d)) /\
   (match o with | none=>DTs (blk X scope (cloF X.env.cells scope.names []) C N' s₀ H₀ fp) ifs ρd false | some e=>DTs (blk X scope (cloF X.env.cells scope.names []) C N' s₀ H₀ fp) ifs ρd true/\DF (blk X scope (cloF X.env.cells scope.names []) C N' s₀ H₀ fp) elt ρd e))
  (kend:∀ (D C:Addr) (s5:Shared) (H' F':Hp) (ys:List V) (m:Str->Option Value),Inv X pins σ H' s5->s5.heap.Ns C m->H' C=none->C≠X.env.locals->X.s₀.heap.objs.size<=C->(∀ x c,X.env.cells.lookup x=some c->c≠C)->(∀ p∈X.pn++pins,p.1≠C) ->
   Same F1 F'->ER X.K H0 Fc F' H' σ ρ->F' D=none->H0 D=none->H' D=some (.lst ys)->DenL X.K F' res ys->RR (.ref D) C (.ok .next) s5)
  {D:Addr} {s3:Shared} (I3:Inv X pins σ (upd H1 D (.lst [])) s3) (fo3:∀ b∈fp,∃ o,s3.heap.get? b=some o) (hfp3:∀ b∈fp,FpOk X pins (upd H1 D (.lst [])) b) (tn3:tn 0 s3.heap) (R3:ER X.K H0 Fc F1 (upd H1 D (.lst [])) σ ρ) (hFD:F1 D=none) (h0D:H0 D=none) :
  wpAny (model X.prog X.w) X.A (newFunctionEnv scope X.env.globals (cloF X.env.cells scope.names []) [] X.env.qual none .none (some X.env)) (fun cenv s₄=>
   codeAny (model X.prog X.w) X.A (.compStart (.ListComp elt [⟨tg,iter,ifs,0⟩] scope pos) 0 (.ref it) (.ref D) {cenv with scope:=relabel scope X.env}) (RR (.ref D) cenv.locals) s₄) E s3:=by
 refine wpAny_newFunctionEnv hcell (by intro y hy;simp at hy) (fun h4 hns4 hsb4=>?_) hk;have k4:∀ b o,s3.heap.get? b=some o->h4.get? b=some o:=fun b o e=>hsb4.extBut b o (Z8 (Zs e)) (Zp _ e)
 have J4:=ydr (t':=s3.toks+([]:List (Str×Value)).length) (s':=s3) (N':=N') I3 hk hcell hfree rfl hfp3 fo3 hns4 k4 hl hv;have tn4:tn 0 h4:=T.keep 0 _ _ tn3 fun b hb o e=>k4 b o e
 have CX:s3.heap.objs.size≠X.env.locals/\X.s₀.heap.objs.size<=s3.heap.objs.size/\(∀ x c,X.env.cells.lookup x=some c->c≠s3.heap.objs.size)/\(∀ p∈X.pn++pins,p.1≠s3.heap.objs.size):=by
  obtain⟨_,b1,_,b3,b4,b5⟩:=I3.fpOk (H':=upd H1 D (.lst [])) (b:=s3.heap.objs.size) (Zj _) (I3.hok.fresh (Zj _))
  exact⟨b1,I3.sz,b4,b5⟩
 have loop:=zsd (elt:=elt) (iter:=iter) (pos:=pos) (RR:=RR) (E:=E) I hcalm T h0 hfp hk hcell hfree R1 hl hρ hv wk hsz hres hblk kend I3 fo3 hfp3 rfl J4 tn4 CX ⟨R3.sub,R3.same,R3.base,R3.new,hρ⟩ hFD h0D;exact codeAny_compStart_list loop (T.self _ 0 _ _ _ tn4 loop)
theorem zgx {K:PySem.W.Frag} (hK:K=X.K) {H0 Fc F1:Hp} {ρ:Rho} {σ':L2.St} {RR:Value->Addr->Result->Shared->Prop} {E:Value->Shared->Prop} (I:Inv X pins σ H1 s2) (hcalm:X.calm=true) (T:Turn X.prog X.w X.K tg J fp it tn) (h0:tn 0 s2.heap) (hfp:∀ b∈fp,FpOk X pins H1 b)
  (hk:scope.kind=.function) (hcell:∀ y∈scope.names,y.2 ≠ .cell) (hfree:∀ y∈scope.names,y.2=.free->∃ c,X.env.cells.lookup y.1=some c)
  (R1:ER X.K H0 Fc F1 H1 σ ρ) (hl:σ'.length=N'.length) (hρ:∀ (i:Nat) d,ρ0[i]? = some (some d)->∃ v,σ'[i]? = some (some v)/\Den X.K F1 d v)
  (hv:∀ (i:Nat) (x:Str) (v:V),N'[i]? = some x->σ'[i]? = some (some v)->scope.names.lookup x=some .free/\X.env.kindOf x=some .cell/\∃ j:Nat,X.N[j]? = some x/\σ[j]? = some (some v))
  (wk:Walks X.K F1 J items) (hsz:items.length<=sizeLine) (hres:zaw f items=some res)
  (hblk:∀ (C:Addr) (s₀:Shared) (H₀:Hp) (d:D) (o:Option D),d∈items->f d=some o->∃ ρd,DGe (blk X scope (cloF X.env.cells scope.names []) C N' s₀ H₀ fp) tg d ρ0 ρd/\(∀ (i:Nat) d,ρ0[i]? = some (some d)->ρd[i]? = some (some d)) /\
   (match o with | none=>DTs (blk X scope (cloF X.env.cells scope.names []) C N' s₀ H₀ fp) ifs ρd false | some e=>DTs (blk X scope (cloF X.env.cells scope.names []) C N' s₀ H₀ fp) ifs ρd true/\DF (blk X scope (cloF X.env.cells scope.names []) C N' s₀ H₀ fp) elt ρd e))
  (kend:∀ (D C:Addr) (s5:Shared) (H' F':Hp) (ys:List V) (m:Str->Option Value),Inv X pins σ H' s5->s5.heap.Ns C m->H' C=none->C≠X.env.locals->X.s₀.heap.objs.size<=C->(∀ x c,X.env.cells.lookup x=some c->c≠C)->(∀ p∈X.pn++pins,p.1≠C) ->
   Same F1 F'->ER X.K H0 Fc F' H' σ ρ->F' D=none->H0 D=none->H' D=some (.lst ys)->DenL X.K F' res ys->RR (.ref D) C (.ok .next) s5) :
  wpAny (model X.prog X.w) X.A (newList []) (fun acc s₃=>wpAny (model X.prog X.w) X.A (newFunctionEnv scope X.env.globals (cloF X.env.cells scope.names []) [] X.env.qual none .none (some X.env)) (fun cenv s₄=>
   codeAny (model X.prog X.w) X.A (.compStart (.ListComp elt [⟨tg,iter,ifs,0⟩] scope pos) 0 (.ref it) acc {cenv with scope:=relabel scope X.env}) (RR acc cenv.locals) s₄) E s₃) E s2:=by
 have fo2:∀ b∈fp,∃ o,s2.heap.get? b=some o:=fun b hb=>by
  obtain⟨o,e,_⟩:=T.obj 0 _ h0 b hb
  exact⟨o,e⟩
 have k3:∀ b o,s2.heap.get? b=some o->(s2.heap.push {cls:=.type "list", data:=.seq ([]:List Value).toArray}).get? b=some o:=fun b o e=>Zp _ e
 obtain⟨R3,hFD,h0D⟩:=R1.put (.lst []) (I.hok.fresh (Zj _))
 refine wpAny_newObj_type ?_ (by show 0<=sizeLine;exact Yi _);exact zwj (elt:=elt) (iter:=iter) (pos:=pos) (RR:=RR) I hcalm T h0 hfp hk hcell hfree R1 hl hρ hv wk hsz hres hblk kend (L2.Inv.lnew (its:=[]) (t':=s2.toks) I .nil (Yi _)) (fun b hb=>let ⟨o,e⟩:=fo2 b hb;⟨o,k3 b o e⟩)
  (fun b hb=>⟨by rw [Gh (by obtain⟨o,e⟩:=fo2 b hb;exact Z8 (Zs e))];exact (hfp b hb).1,(hfp b hb).2⟩) (T.keep 0 _ _ h0 fun b hb o e=>k3 b o e) R3 hFD h0D
end
def blkR {α:Type} (k:Nat) (fr:List Nat) (ρ:List (Option α)):List (Option α):=List.replicate k none++fr.map fun i=>(ρ[i]?).bind id
theorem zbl {α:Type} {k:Nat} {fr:List Nat} {ρ:List (Option α)} {i:Nat} {v:α} (h:(blkR k fr ρ)[i]? = some (some v)):∃ m j,i=k+m/\fr[m]? = some j/\ρ[j]? = some (some v):=by
 unfold blkR at h;by_cases hi:i<k
 ·rw [Z9 (by rw [Yq];exact hi),W6] at h;split at h <;> cases h
 ·rw [Z0 (by rw [Yq];omega),Yq,Zi] at h;cases q:fr[i-k]? with
  | none=>rw [q] at h;cases h
  | some j=>
   rw [q] at h;refine⟨i-k,j,by omega,q,?_⟩
   have h2:(ρ[j]?).bind id=some v:=Z3 h;cases z:ρ[j]? with
   | none=>rw [z] at h2;cases h2
   | some o=>rw [z] at h2;cases o with
    | none=>cases h2
    | some v'=>exact congrArg some h2
theorem zsp {α:Type} {k:Nat} {fr:List Nat} {ρ:List (Option α)} {m j:Nat} {v:α} (h1:fr[m]? = some j) (h2:ρ[j]? = some (some v)):(blkR k fr ρ)[k+m]? = some (some v):=by
 unfold blkR;rw [Z0 (by rw [Yq];omega),Yq,Zi,show k+m-k=m by omega,h1];simp [h2]
theorem znl {α:Type} {k:Nat} {fr:List Nat} {ρ:List (Option α)}:(blkR k fr ρ).length=k+fr.length:=by
 unfold blkR;rw [Zw,Yq,Zc]
end DL
namespace DL
open PySem L2 PyProof.Rows
section
variable {X:Cx} {e a b:Expr} {es:List Expr} {ρ:Rho} {pos:Pos} {w:W}
theorem ybj:OpR X (binaryOp .Add) (fun x y H Q=>∃ l b xs zs,x=.ref l/\y=.ref b/\SqL X.K H l xs/\SqL X.K H b zs/\xs.length+zs.length<=sizeLine/\∀ p,H p=none->Q (.ref p) (upd H p (.lst (xs++zs)))):=by
 intro pins s σ H x y v u Q I rx ry h;obtain⟨l,b,xs,zs,rfl,rfl,hH,hB,hz,q⟩:=h
 cases rx;cases ry;obtain⟨its,r,pl,z1⟩:=I.list hH
 obtain⟨its2,r2,pl2,z2⟩:=I.list hB
 obtain⟨⟨cl1,dd1,dt1,sl1⟩,n,ho,hc,hd0,hd⟩:=pl
 obtain⟨⟨cl2,dd2,dt2,sl2⟩,n2,ho2,hc2,hd02,hd2⟩:=pl2
 cases hc;cases hd;cases hc2;cases hd2
 have l1:=r.length;have l2:=r2.length;have ea:its.toArray++its2.toArray=(its++its2).toArray:=by simp
 refine concat_meets ⟨_,ho,rfl⟩ ⟨_,ho2,rfl⟩ noFill_list_add seq_list_add PySem.F.slot_list_add PySem.F.entry_list_add (PySem.F.args_list_add_2 _ _) (list_addW l b its.toArray its2.toArray n n2 dd1 dd2 sl1 sl2 (by simp only [Zq];omega)) ⟨ho,ho2,?_⟩;rw [ea];exact⟨.ref _,_,I.lnew (t':=s.toks) (r.append r2) (by rw [Zw];omega),rfl,q _ I.fresh⟩
theorem DE.cat {l m:List D} (ha:DF X a ρ (.lst l)) (hb:DF X b ρ (.lst m)) (hl:l.length+m.length<=sizeLine):DE X (.BinOp a .Add b pos) ρ (.new (l++m)):=fun H0 Fc=>
 PE.mono (ybb ybj (ha H0 Fc) (hb H0 Fc)) (zbm fun H F σ v u Q R qv qu k=>by
  obtain⟨p,xs,e1,sq,r⟩:=qv.lst
  obtain⟨p2,ys,e2,sq2,r2⟩:=qu.lst
  subst e1;subst e2;refine⟨p,p2,xs,ys,rfl,rfl,R.sub.seq sq,R.sub.seq sq2,by rw [r.length,r2.length];exact hl,fun q hq=>?_⟩
  obtain⟨R4,hF,h0⟩:=R.put (.lst (xs++ys)) hq
  exact k _ _ _ (Same.refl _) R4 (RW.n hF h0 Gj (r.append r2)))
theorem zwt {l:List D}:zcs X (.type "list") [.lst l] (.new l):=⟨_,zdj,fun H0 Fc H F σ ρ vs Q R q k=>by
 obtain⟨v,e,q⟩:=q.one
 obtain⟨p,xs,e1,sq,r⟩:=q.lst
 rw [e1] at e;refine⟨p,xs,e,.inl (R.sub.seq sq),fun p2 hp=>?_⟩
 obtain⟨R4,hF,h0⟩:=R.put (.lst xs) hp
 exact k _ _ _ (Same.refl _) R4 (RW.n hF h0 Gj r)⟩
theorem zso {l:List D}:zcs X (.type "list") [.tup l] (.new l):=⟨_,zdj,fun H0 Fc H F σ ρ vs Q R q k=>by
 obtain⟨v,e,q⟩:=q.one
 obtain⟨p,xs,e1,sq,r⟩:=q.tup
 rw [e1] at e;refine⟨p,xs,e,.inr (Same.tup R.sub sq),fun p2 hp=>?_⟩
 obtain⟨R4,hF,h0⟩:=R.put (.lst xs) hp
 exact k _ _ _ (Same.refl _) R4 (RW.n hF h0 Gj r)⟩
theorem ydo {i j:Int} (hc:X.calm=true):zcs X (.builtin "min") [.int i,.int j] (.val (.int (if j<i then j else i))):=⟨_,zsj hc,fun H0 Fc H F σ ρ vs Q R q k=>by
 obtain⟨v,u,e,q1,q2⟩:=q.two
 rw [q1.int,q2.int] at e;exact⟨i,j,e,k _ H F (Same.refl _) R RW.int⟩⟩
theorem ydp {i j:Int} (hc:X.calm=true):zcs X (.builtin "max") [.int i,.int j] (.val (.int (if i<j then j else i))):=⟨_,zsl hc,fun H0 Fc H F σ ρ vs Q R q k=>by
 obtain⟨v,u,e,q1,q2⟩:=q.two
 rw [q1.int,q2.int] at e;exact⟨i,j,e,k _ H F (Same.refl _) R RW.int⟩⟩
end
section
variable {X:Cx} {e:Expr} {ρ:RhoS} {pos:Pos}
theorem zct {K:PySem.W.Frag} {H0 Fc F H:Hp} {σ:L2.St} (S:SR K H0 Fc F H σ ρ) {i:Nat} {l:List D} (h:ρ[i]? = some (some (.ow l))):∃ a xs,σ[i]? = some (some (.ref a))/\H a=some (.lst xs)/\DenL K F l xs:=by
 obtain⟨a,xs,p,_,_,p3,p4⟩:=S.own i l h
 exact⟨a,xs,p,p3,p4⟩
theorem DS.app {i:Nat} {x:Str} {l:List D} {d:D} {p ap cp ep:Pos} (hN:X.N[i]? = some x) (hv:Vis X.env.scope x) (hd:(x == ("__debug__" : Str))=false) (hcd:(x == ("__classdict__" : Str))=false) (hr:ρ[i]? = some (some (.ow l))) (he:DE X e (view ρ) (.val d)) (hs:Ga e=true) (hf:lf d=true) (hz:l.length<sizeLine)
  (hline:(ap.endLine == cp.line)=true):DS X (.Expr (.Call (.Attribute (.Name x p) "append" ap) [e] [] cp) ep) ρ (.nx (ρ.set i (some (.ow (l++[d]))))):=fun H0 Fc=>
 PS.mono (zkq (pe_bm J0 slot_list_append F.type_list_append zji (zdg hN hv hd hcd) (zhj (he H0 Fc) zqo (Gf hs)) rfl (by rw [Gf hs];rfl) hline (Gf hs) rfl) rfl) fun D σ H ⟨F,S,k⟩=>by
  obtain⟨a,xs,h1,h2,h3⟩:=zct S hr
  obtain⟨s0,R⟩:=S.borrow
  refine⟨_,h1,.inl ⟨rfl,xs,SqL.of h2⟩,_,R,fun v H2 F2 s2 R2 q=>?_⟩
  obtain⟨F3,s3,S3,q3⟩:=S.back s2 R2 q hf
  obtain⟨a',xs',g1,g2,g3⟩:=zct S3 hr
  rw [h1] at g1;cases g1;have e3:H2 a=some (.lst xs):=by
   have:=s2 a (.lst xs) (by unfold DL.borrow;rw [if_pos ⟨i,l,hr,h1⟩];exact h2)
   exact R2.sub _ _ this
  rw [e3] at g2;cases g2;refine⟨a,xs,v,rfl,rfl,e3,by rw [h3.length];exact hz,k σ _ F3 s3 (S3.mut hr h1 (g3.append (DenL.cons q3 DenL.nil)))⟩
theorem zwd {K:PySem.W.Frag} {F:Hp} {l:List D} {xs:List V} (h:DenL K F l xs) (hl:l≠[]):∃ y,xs[xs.length-1]? = some y/\DenL K F l.dropLast xs.dropLast:=by
 have hn:0<l.length:=Vc.mpr hl;have hd:=h.take (l.length-1);refine⟨xs[xs.length-1]'(by rw [h.length];omega),Ze _,?_⟩
 rw [U0,U0,h.length];exact hd
theorem DS.pop {i:Nat} {x:Str} {l:List D} {p ap cp ep:Pos} (hN:X.N[i]? = some x) (hv:Vis X.env.scope x) (hd:(x == ("__debug__" : Str))=false) (hcd:(x == ("__classdict__" : Str))=false) (hr:ρ[i]? = some (some (.ow l))) (hl:l≠[]) (hline:(ap.endLine == cp.line)=true) :
  DS X (.Expr (.Call (.Attribute (.Name x p) "pop" ap) [] [] cp) ep) ρ (.nx (ρ.set i (some (.ow l.dropLast)))):=fun H0 Fc=>
 PS.mono (zkq (zxy J0 F.slot_list_pop F.type_list_pop mt_pop (zdg hN hv hd hcd) rfl hline) rfl) fun D σ H ⟨F,S,k⟩=>by
  obtain⟨a,xs,h1,h2,h3⟩:=zct S hr
  obtain⟨y,g1,g2⟩:=zwd h3 hl
  exact⟨_,h1,.inl ⟨rfl,xs,SqL.of h2⟩,a,xs,y,rfl,rfl,h2,g1,k σ _ F (Same.refl _) (S.mut hr h1 g2)⟩
theorem DS.clr {i:Nat} {x:Str} {l:List D} {p ap cp ep:Pos} (hN:X.N[i]? = some x) (hv:Vis X.env.scope x) (hd:(x == ("__debug__" : Str))=false) (hcd:(x == ("__classdict__" : Str))=false) (hr:ρ[i]? = some (some (.ow l))) (hline:(ap.endLine == cp.line)=true) :
  DS X (.Expr (.Call (.Attribute (.Name x p) "clear" ap) [] [] cp) ep) ρ (.nx (ρ.set i (some (.ow [])))):=fun H0 Fc=>
 PS.mono (zkq (zxy J0 F.slot_list_clear F.type_list_clear zvh (zdg hN hv hd hcd) rfl hline) rfl) fun D σ H ⟨F,S,k⟩=>by
  obtain⟨a,xs,h1,h2,h3⟩:=zct S hr
  exact⟨_,h1,.inl ⟨rfl,xs,SqL.of h2⟩,a,xs,rfl,rfl,h2,k σ _ F (Same.refl _) (S.mut hr h1 DenL.nil)⟩
theorem DenL.set {K:PySem.W.Frag} {F:Hp} {d:D} {v:V} (q:Den K F d v):∀ {l:List D} {xs:List V} (n:Nat),DenL K F l xs->DenL K F (l.set n d) (xs.set n v)
 | [],_,n,h=>by rw [h.inv_nil];simpa using DenL.nil
 | e::l,_,0,h=>by
  obtain⟨u,us,z,q1,r⟩:=h.inv_cons
  subst z;exact DenL.cons q r
 | e::l,_,n+1,h=>by
  obtain⟨u,us,z,q1,r⟩:=h.inv_cons
  subst z;exact DenL.cons q1 (DenL.set q n r)
theorem DS.seti {i n:Nat} {x:Str} {l:List D} {d:D} {j:Int} {p sp ep:Pos} {k:Expr} (hN:X.N[i]? = some x) (hv:Vis X.env.scope x) (hd:(x == ("__debug__" : Str))=false) (hcd:(x == ("__classdict__" : Str))=false) (hr:ρ[i]? = some (some (.ow l))) (he:DE X e (view ρ) (.val d)) (hk:DF X k (view ρ) (.int j)) (hf:lf d=true) (hj:ixN l.length j=some n)
  (hsl:zbi k=true) (hsw:swapsWithSole [.Subscript (.Name x p) k sp] e ep.line X.env=pure false) (hw:swappedStores [.Subscript (.Name x p) k sp] e X.env=pure none):DS X (.Assign [.Subscript (.Name x p) k sp] e ep) ρ (.nx (ρ.set i (some (.ow (l.set n d))))):=fun H0 Fc=>
 PS.mono (zxw (he H0 Fc) (pg_sub (zdg hN hv hd hcd) (hk H0 Fc) zul (by intro v;cases k <;> first | rfl | (cases hsl;done))) hsw hw rfl) fun D σ H ⟨F,S,kk⟩=>by
  obtain⟨a,xs,h1,h2,h3⟩:=zct S hr
  obtain⟨s0,R⟩:=S.borrow
  have ow:Owned σ ρ a:=⟨i,l,hr,h1⟩;refine⟨_,R,fun v H2 F2 s2 R2 q=>?_⟩
  refine⟨.ref a,h1,F2,R2,fun kv H3 F3 s3 R3 q3=>?_⟩
  obtain⟨F4,s4,S4,q4⟩:=S.back (s2.trans s3) R3 (show RW X.K H0 F3 H3 (.val d) v from Den.mono s3 d q) hf
  obtain⟨a',xs',g1,g2,g3⟩:=zct S4 hr
  rw [h1] at g1;cases g1;have e3:H3 a=some (.lst xs):=by
   have:=(s2.trans s3) a (.lst xs) (by unfold DL.borrow;rw [if_pos ow];exact h2)
   exact R3.sub _ _ this
  rw [e3] at g2;cases g2;refine⟨a,xs,j,n,rfl,q3.int,e3,by rw [h3.length];exact hj,kk σ _ F4 s4 (S4.mut hr h1 (DenL.set q4 n g3))⟩
end
end DL
namespace DL
open PySem
def stepP (mask:Nat) (p:SetTable.Probe):SetTable.Probe:=
 if p.more > 0 then {p with j:=p.j+1,more:=p.more-1} else
 {p with j:=(SetTable.leap mask p.i p.perturb).1,more:=SetTable.runEnd mask (SetTable.leap mask p.i p.perturb).1-(SetTable.leap mask p.i p.perturb).1,i:=(SetTable.leap mask p.i p.perturb).1,perturb:=(SetTable.leap mask p.i p.perturb).2}
def runAt (mask i p:Nat):SetTable.Probe:={j:=i,more:=SetTable.runEnd mask i-i,i:=i,perturb:=p,dummy:=none}
def way (mask:Nat) (h:Int):Nat->SetTable.Probe
 | 0=>runAt mask (SetTable.bits h%(mask+1)) (SetTable.bits h)
 | n+1=>stepP mask (way mask h n)
def okM (m:Nat):Prop:=m=7\/m=31\/m=127
theorem least {P:Nat->Prop}:∀ {n:Nat},P n->∃ m,m<=n/\P m/\∀ k,k<m -> ¬ P k:=by
 intro n;induction n using Nat.strongRecOn with
 | ind n ih=>
  intro h;by_cases q:∃ k,k<n/\P k
  ·obtain⟨k,hk,pk⟩:=q
   obtain⟨m,a,b,c⟩:=ih k hk pk
   exact⟨m,by omega,b,c⟩
  ·exact⟨n,Zj _,h,fun k hk pk=>q ⟨k,hk,pk⟩⟩
end DL
namespace DL
open PySem
structure TOk (t:SetTable) (es:Array (Int×Value)):Prop where
 mask:okM t.mask
 dum:t.dummies = #[]
 ris:t.place.toList.Pairwise (· < ·)
 size:t.place.size=es.size
 le:∀ j∈t.place.toList,j<=t.mask
 wy:∀ (i:Nat) (h:Int) (v:Value),es[i]? = some (h,v)->∃ n,n<=10*(t.mask+13)/\t.place[i]? = some (DL.way t.mask h n).j/\∀ n',n'<n->(DL.way t.mask h n').j∈t.place.toList
theorem TOk.plain {t:SetTable} {es:Array (Int×Value)} (T:TOk t es) (b:Bool):TOk {t with plain:=b} es:=⟨T.mask,T.dum,T.ris,T.size,T.le,T.wy⟩
theorem TOk.fresh (f m:Nat) (led:Bool):TOk (SetTable.fresh f m led) #[]:=⟨.inl rfl,rfl,by simp [SetTable.fresh],rfl,fun j hj=>by simp [SetTable.fresh] at hj,fun i h v e=>by simp at e⟩
end DL
namespace DL
open PySem
section
variable {prog:Program} {w:World} {A:Around} {E:Value->Shared->Prop} {s:Shared}
abbrev IsTK (prog:Program) (w:World) (h:Heap) (k:List Int) (a:Addr):Prop:=IsTupleKey (intKind prog w) h k a
abbrev tkHash (prog:Program) (w:World) (k:List Int):Int:=tupleKeyHash (intKind prog w) k
def ent (prog:Program) (w:World) (x:List Int×Addr):Int×Value:=(tkHash prog w x.1,.ref x.2)
end
end DL
namespace DL
open PySem
section
variable {prog:Program} {w:World} {A:Around} {E:Value->Shared->Prop} {s:Shared}
def SetP (prog:Program) (w:World) (h:Heap) (a:Addr) (led:Bool) (σ:List (List Int×Addr)):Prop:=
 ∃ o es ep t,h.get? a=some o/\o.ExactSet/\o.data=.set es ep t/\TOk t es/\t.plain=true/\t.led=led/\t.place.size*5<t.mask*3/\es.toList.Perm (σ.map (ent prog w))/\(σ.map (·.1)).Nodup/\∀ x∈σ,IsTK prog w h x.1 x.2
theorem SetP.lt {h:Heap} {a:Addr} {led:Bool} {σ:List (List Int×Addr)} (S:SetP prog w h a led σ):a<h.objs.size:=by
 obtain⟨o,_,_,_,ho,_⟩:=S
 exact Zs ho
theorem SetP.at {h h':Heap} {a:Addr} {led:Bool} {σ:List (List Int×Addr)} (S:SetP prog w h a led σ) (hk:∀ b o,h.get? b=some o->(b=a\/∃ x∈σ,b=x.2)->h'.get? b=some o):SetP prog w h' a led σ:=by
 obtain⟨o,es,ep,t,ho,hx,hd,T,pl,ld,fw,pm,nd,tk⟩:=S
 refine⟨o,es,ep,t,hk a o ho (.inl rfl),hx,hd,T,pl,ld,fw,pm,nd,fun x hx=>?_⟩
 obtain⟨o',items,n,ho',r⟩:=tk x hx
 exact⟨o',items,n,hk _ _ ho' (.inr ⟨x,hx,rfl⟩),r⟩
end
end DL
namespace DL
open PySem
section
variable {prog:Program} {w:World} {A:Around} {E:Value->Shared->Prop} {s:Shared}
abbrev zvy (led:Bool):Obj:={cls:=.type "set", dict:=none,data:=.set #[] 0 (.fresh 0 0 led)}
theorem SetP.fresh {h:Heap} {a:Addr} {led:Bool} (ho:h.get? a=some (zvy led)):SetP prog w h a led []:=
 ⟨_,_,_,_,ho,⟨rfl,rfl,rfl⟩,rfl,TOk.fresh 0 0 led,rfl,rfl,by show 0*5<7*3;decide,List.Perm.refl _,List.nodup_nil,fun x hx=>by cases hx⟩
end
end DL
namespace DL
open PySem
section
variable {prog:Program} {w:World} {A:Around} {E:Value->Shared->Prop} {s:Shared}
abbrev ledOf (w:World):Bool:=!w.params.followText "set-order"
end
end DL
namespace DL
open PySem
section
variable {prog:Program} {w:World} {A:Around} {E:Value->Shared->Prop} {s:Shared}
structure SetAt (w:World) (h:Heap) (S:Addr) (es:Array (Int×Value)) (ep:Nat) (t:SetTable):Prop where
 ob:∃ o,h.get? S=some o/\o.ExactSet/\o.data=.set es ep t
 ok:TOk t es
 plain:t.plain=true
 led:t.led=ledOf w
 few:t.place.size*5<t.mask*3
theorem SetAt.at {h h':Heap} {S:Addr} {es:Array (Int×Value)} {ep:Nat} {t:SetTable} (X:SetAt w h S es ep t) (k:∀ o,h.get? S=some o->h'.get? S=some o):SetAt w h' S es ep t:=by
 obtain⟨⟨o,ho,r⟩,b,c,d,e⟩:=X
 exact⟨⟨o,k o ho,r⟩,b,c,d,e⟩
def IsSetIter (h:Heap) (I S:Addr) (sl i n ep:Nat):Prop:=∃ o,h.get? I=some o/\o.cls=.type "set_iterator" /\ o.data=.fields #[.int sl 0,.int i 0,.ref S,.int n 0,.int ep 0]
theorem IsSetIter.typeIs {I S:Addr} {sl i n ep:Nat} (x:IsSetIter s.heap I S sl i n ep):s.TypeIs (.ref I) "set_iterator" := let ⟨o,ho,hc,_⟩:=x;⟨o,ho,hc⟩
end
end DL
namespace DL
open PySem
section
variable {prog:Program} {w:World} {A:Around} {E:Value->Shared->Prop} {s:Shared}
end
end DL
namespace DL
open PySem PySem.W PyProof.Rows
structure Ord (N:Nat) (b:Nat->Nat->Bool):Prop where
 tr:∀ i j k,b i j=true->b j k=true->b i k=true
 tot:∀ i j,i<N->j<N->i≠j->b i j=true\/b j i=true
 asy:∀ i j,b i j=true->b j i=true->False
def Arr (N:Nat) (p:Array Nat):Prop:=p.toList.Perm (List.range N)
def Srt (b:Nat->Nat->Bool) (p:Array Nat) (k:Nat):Prop:=∀ i j,i<j->j<k->b (p.getD i 0) (p.getD j 0)=true
section
variable {b:Nat->Nat->Bool} {N:Nat} {p:Array Nat}
theorem Arr.size (h:Arr N p):p.size=N:=by
 have:=h.length_eq
 simpa using this
theorem gd {i:Nat} (h:i<p.size):p.getD i 0=p[i]:=by simp [Array.getD,h]
theorem Arr.lt (h:Arr N p) (hN:0<N) (i:Nat):p.getD i 0<N:=by
 by_cases q:i<p.size
 ·rw [gd q];exact Uo.mp (h.mem_iff.mp (U2.mpr (Array.getElem_mem q)))
 ·rw [show p.getD i 0=0 by simp [Array.getD,q]];exact hN
theorem Arr.inj (h:Arr N p) {i j:Nat} (hi:i<N) (hj:j<N) (e:p.getD i 0=p.getD j 0):i=j:=by
 have nd:p.toList.Nodup:=h.nodup_iff.mpr List.nodup_range;have hi':i<p.size:=by rw [h.size];exact hi
 have hj':j<p.size:=by rw [h.size];exact hj
 rw [gd hi',gd hj'] at e;have:=Qn.mp nd
 rcases Nat.lt_trichotomy i j with q | q | q
 ·have hh:=this i j hi' hj' q;rw [Kd,Kd] at hh;exact absurd e hh
 ·exact q
 ·have hh:=this j i hj' hi' q;rw [Kd,Kd] at hh;exact absurd e.symm hh
theorem Srt.more (O:Ord N b) {n:Nat} (h:Srt b p n) (h1:1<=n) (e:b (p.getD (n-1) 0) (p.getD n 0)=true):Srt b p (n+1):=fun i j hij hj=>by
 by_cases q:j<n
 ·exact h i j hij q
 ·have:j=n:=by omega
  subst this;by_cases z:i=j-1
  ·subst z;exact e
  ·exact O.tr _ _ _ (h i (j-1) (by omega) (by omega)) e
theorem Ord.not (O:Ord N b) (A:Arr N p) {i j:Nat} (hi:i<N) (hj:j<N) (ne:i≠j) (h:b (p.getD i 0) (p.getD j 0)=false):b (p.getD j 0) (p.getD i 0)=true:=by
 rcases O.tot (p.getD i 0) (p.getD j 0) (A.lt (by omega) i) (A.lt (by omega) j) (fun e=>ne (A.inj hi hj e)) with q | q
 ·rw [h] at q;cases q
 ·exact q
section
variable {cmp:Nat->Nat->(Bool->Shared->Prop)->Shared->Prop} {s:Shared}
def Fal (b:Nat->Nat->Bool) (p:Array Nat) (k:Nat):Prop:=∀ i j,i<j->j<k->b (p.getD j 0) (p.getD i 0)=true
theorem Fal.more (O:Ord N b) {n:Nat} (h:Fal b p n) (h1:1<=n) (e:b (p.getD n 0) (p.getD (n-1) 0)=true):Fal b p (n+1):=fun i j hij hj=>by
 by_cases q:j<n
 ·exact h i j hij q
 ·have:j=n:=by omega
  subst this;by_cases z:i=j-1
  ·subst z;exact e
  ·exact O.tr _ _ _ e (h i (j-1) (by omega) (by omega))
end
end
end DL
namespace DL
open PySem PySem.W PyProof.Rows
def ltK:List Int->List Int->Bool
 | [a,b],[c,d]=>decide (a<c) || (decide (a=c) && decide (b<d))
 | _,_=>false
section
variable {prog:Program} {w:World} {A:Around} {E:Value->Shared->Prop} {s:Shared}
end
end DL
namespace DL
open PySem PySem.W PyProof.Rows
section
variable {prog:Program} {w:World} {A:Around} {E:Value->Shared->Prop} {s:Shared}
end
end DL
namespace DL
open PySem L2 PyProof.Rows
def insK (k:List Int):List (List Int)->List (List Int)
 | []=>[k]
 | x::l=>if ltK k x=true then k::x::l else if k=x then x::l else x::insK k l
def ssK:List (List Int)->List (List Int)
 | []=>[]
 | k::l=>insK k (ssK l)
theorem zmx {k x:List Int}:∀ {l:List (List Int)},x∈insK k l↔x=k\/x∈l
 | []=>by simp [insK]
 | y::l=>by
  unfold insK;split
  ·simp
  ·split
   ·rename_i e;subst e;simp
   ·rw [Zf,zmx,Zf];constructor
    ·rintro (h | h | h)
     ·exact .inr (.inl h)
     ·exact .inl h
     ·exact .inr (.inr h)
    ·rintro (h | h | h)
     ·exact .inr (.inl h)
     ·exact .inl h
     ·exact .inr (.inr h)
theorem ssK_mem {x:List Int}:∀ {l:List (List Int)},x∈ssK l↔x∈l
 | []=>Vl
 | k::l=>by
  unfold ssK;rw [zmx,ssK_mem,Zf]
def dK (k:List Int):D:=.tup (k.map D.int)
section
variable {X:Cx} {e:Expr} {es:List Expr} {ρ:Rho} {pos:Pos} {w:W}
theorem zlv {prog:Program} {w:World}:∀ {k:List Int} {us:List Value},Vals (k.map V.int) us->ItemsAre (intKind prog w) k us
 | [],_,h=>by cases h;exact .nil
 | i::k,_,h=>by
  cases h with
  | cons h1 h2=>
   obtain⟨t,e⟩:=h1
   subst e;exact .cons (by show Value.isInt i (.int i t)=true;simp [Value.isInt]) (zlv h2)
theorem Inv.tk {pins σ H s} {z:List Int×Addr} (I:Inv X pins σ H s) (h:SqT X.K H z.2 (z.1.map V.int)):IsTK X.prog X.w s.heap z.1 z.2:=by
 obtain⟨its,r,⟨o,ho,hc,n,hd⟩,_⟩:=I.tuple h
 exact⟨o,its.toArray,n,ho,hc,hd,zlv r⟩
end
end DL
namespace DL
open PySem L2 PyProof.Rows
section
variable {prog:Program} {w:World} {A:Around} {E:Value->Shared->Prop} {s:Shared}
end
section
variable {X:Cx} {e:Expr} {es:List Expr} {ρ:Rho} {pos:Pos} {w:W}
theorem zvb {x y:Str} {p p2 q2:Pos} {f g:String} {t:TA} {r:List V->Hp->VK->Prop} (hc:∀ pins s σ H vs us Q,Inv X pins σ H s->Vals vs us->r vs H Q->wpAny (model X.prog X.w) X.A (call (.type g) us) (fun m s1=>wpAny (model X.prog X.w) X.A (call (.type f) [m]) (EP X pins σ Q) X.xe s1) X.xe s)
  (hg:Gl X x) (hm:X.mg x=none) (hv:bootBuiltins x=some (.type f)) (hn:x ≠ "__name__") (hdb:(x == ("__debug__" : Str))=false) (hg2:Gl X y) (hm2:X.mg y=none) (hv2:bootBuiltins y=some (.type g)) (hn2:y ≠ "__name__") (hdb2:(y == ("__debug__" : Str))=false) (ha:PA X (e::es) t) (hs:Ga e=true) (hss:es.all Ga=true) :
  PE X (.Call (.Name x p) [.Call (.Name y p2) (e::es) [] q2] [] pos) (fun σ H Q=>t σ H fun vs H1=>r vs H1 Q):=by
 intro pins s σ H Q I h;refine Q2 (zcl I hg hm hv ?_ hn hdb);refine Yu ?_;show wpAny _ _ (spliced ((false,eval (.Call (.Name y p2) (e::es) [] q2) X.env)::backTo pos (starEach [] X.env))) _ _ s;refine Vd ?_;refine Q2 (zcl I hg2 hm2 hv2 ?_ hn2 hdb2);refine Yu (thn (ha q2 pins s σ H _ I h) fun us s1 ⟨vs,H1,I1,r1,q1⟩=>?_) (Gf hs) (zax hss);exact thn (hc pins s1 σ H1 vs us Q I1 r1 q1) fun m s2 hm=>Vm hm
def zzf (X:Cx) (f g:Value) (ds:List D) (w:W):Prop:=∃ r:List V->Hp->VK->Prop,(∀ pins s σ H vs us Q,Inv X pins σ H s->Vals vs us->r vs H Q->wpAny (model X.prog X.w) X.A (call g us) (fun m s1=>wpAny (model X.prog X.w) X.A (call f [m]) (EP X pins σ Q) X.xe s1) X.xe s) /\
 ∀ (H0 Fc H F:Hp) (σ:L2.St) (ρ:Rho) (vs:List V) (Q:VK),ER X.K H0 Fc F H σ ρ->DenL X.K F ds vs->(∀ v' H' F',Same F F'->ER X.K H0 Fc F' H' σ ρ->RW X.K H0 F' H' w v'->Q v' H')->r vs H Q
theorem DE.nestT {x y:Str} {p p2 q2:Pos} {f g:String} {ds:List D} (hc:zzf X (.type f) (.type g) ds w) (hg:Gl X x) (hm:X.mg x=none) (hv:bootBuiltins x=some (.type f)) (hn:x ≠ "__name__") (hdb:(x == ("__debug__" : Str))=false) (hg2:Gl X y) (hm2:X.mg y=none) (hv2:bootBuiltins y=some (.type g)) (hn2:y ≠ "__name__") (hdb2:(y == ("__debug__" : Str))=false)
  (ha:DA X (e::es) ρ ds) (hs:Ga e=true) (hss:es.all Ga=true):DE X (.Call (.Name x p) [.Call (.Name y p2) (e::es) [] q2] [] pos) ρ w:=fun H0 Fc=>by
 obtain⟨r,hr,hq⟩:=hc
 refine PE.mono (zvb hr hg hm hv hn hdb hg2 hm2 hv2 hn2 hdb2 (ha H0 Fc) hs hss) fun σ H Q ⟨F,R,k⟩=>⟨F,R,fun vs H1 F1 s1 R1 q1=>?_⟩
 exact hq H0 Fc H1 F1 σ ρ vs Q R1 q1 fun v' H' F' s' R' q'=>k v' H' F' (s1.trans s') R' q'
theorem DenL.rev {K:PySem.W.Frag} {F:Hp}:∀ {l:List D} {xs:List V},DenL K F l xs->DenL K F l.reverse xs.reverse
 | [],_,h=>by rw [h.inv_nil];exact DenL.nil
 | d::l,_,h=>by
  obtain⟨v,vs,e,q,r⟩:=h.inv_cons
  subst e;rw [Ku,Ku];exact (DenL.rev r).append (DenL.cons q DenL.nil)
theorem zsn {l:List D}:zcs X (.type "tuple") [.lst l] (.val (.tup l)):=⟨_,zie,fun H0 Fc H F σ ρ vs Q R q k=>by
 obtain⟨v,e,q⟩:=q.one
 obtain⟨p,xs,e1,sq,r⟩:=q.lst
 rw [e1] at e;refine⟨p,xs,e,.inl ⟨R.sub.seq sq,fun p2 hp=>?_⟩⟩
 obtain⟨R2,s2⟩:=R.lay (.tup xs) hp
 exact k _ _ _ s2 R2 (RW.v (Den.tup_mk (SqT.of Gj) (r.mono s2)))⟩
end
end DL
namespace DL
open PySem L2 PyProof.Rows
section
variable {prog:Program} {w:World} {A:Around} {E:Value->Shared->Prop} {s:Shared}
abbrev IsZ2 (h:Heap) (z TI TO T:Addr) (f1:Bool):Prop:=
 h.get? z=some {cls:=.type "zip", dict:=none,data:=.fields #[rawInt T,.bool f1,.bool false,.ref TI,.ref TO],slots:=#[]}
theorem zvt {a:Addr} {Q:Option Obj->Shared->Prop} (h:Q (s.heap.get? a) s):wpAny (model prog w) A (loadIfAlive a) Q E s:=fun _ _ _=>h
theorem zmn {z TI TO T:Addr} {f1:Bool} {Q:Bool->Shared->Prop} (hz:IsZ2 s.heap z TI TO T f1) (hT:∃ o,s.heap.get? T=some o) (h:∀ h',IsZ2 h' z TI TO T true->Heap.SameBut z s.heap h'->Q false {s with heap:=h'}) :
  wpAny (model prog w) A (Builtin.SmallTypes.ownedTupleIsFree (.ref z)) Q E s:=by
 obtain⟨o,ho⟩:=hT
 unfold Builtin.SmallTypes.ownedTupleIsFree;refine Zg (K5 hz rfl (x:=rawInt T) rfl ?_);show wpAny _ _ (loadIfAlive ((T:Int)).toNat >>= _) _ _ _;rw [Wm];refine Zg (zvt ?_);rw [ho];simp only [Option.isNone_some,Y3,if_false];refine Zg (K5 hz rfl (x:=.bool f1) rfl ?_);cases f1 with
 | true=>
  exact Zg (Zy (Zy (h _ hz ⟨rfl,fun _ _=>rfl⟩)))
 | false=>
  refine Zg (wpAny_setField_rec hz (by simp) fun h₁ hz₁ hs₁=>?_);exact Zy (h _ hz₁ hs₁)
structure ZA (z TI i1 i2 l1 l2:Addr):Prop where
 TIz:TI≠z
 i1z:i1≠z
 i2z:i2≠z
 TIi1:TI≠i1
 TIi2:TI≠i2
 i12:i1≠i2
 l1z:l1≠z
 l1i1:l1≠i1
 l1i2:l1≠i2
 l2z:l2≠z
 l2i1:l2≠i1
 l2i2:l2≠i2
theorem zou {z TI TO T i1 i2 l1 l2:Addr} {f1:Bool} {k1 k2:Nat} {xs ys:Array Value} {x y:Value} {Q:Option Value->Shared->Prop} (D:ZA z TI i1 i2 l1 l2) (hz:IsZ2 s.heap z TI TO T f1) (hT:∃ o,s.heap.get? T=some o) (hTI:IsPair s.heap TI (.ref i1) (.ref i2))
  (h1:s.heap.IsListIter i1 l1 k1) (h2:s.heap.IsListIter i2 l2 k2) (hl1:s.heap.IsList l1 xs) (hl2:s.heap.IsList l2 ys) (hx:xs[k1]? = some x) (hy:ys[k2]? = some y)
  (hQ:∀ h',IsZ2 h' z TI TO T true->h'.IsListIter i1 l1 (k1+1)->h'.IsListIter i2 l2 (k2+1)->IsPair h' s.heap.objs.size x y->h'.objs.size=s.heap.objs.size+1 ->
   (∀ c o,c≠z->c≠i1->c≠i2->s.heap.get? c=some o->h'.get? c=some o)->Q (some (.ref s.heap.objs.size)) {s with heap:=h'}) :
  wpAny (model prog w) A (pyNext (.ref z)) Q E s:=by
 have hTy:s.TypeIs (.ref z) "zip" := ⟨_,hz,rfl⟩;unfold pyNext;refine Zg (wpAny_attempt (wpAny_callSpecial?_slot (name:=Str.ofString "__next__") hTy Je (wpAny_call_entry Je hTy F.entry_zip_next ?_ (F.args_zip_next_1 _))));show wpAny _ _ (field (.ref z) 2 >>= _) _ _ _;refine Zg (K5 hz rfl (x:=.bool false) rfl ?_);show wpAny _ _ (field (.ref z) 3 >>= _) _ _ _;refine Zg (K5 hz rfl (x:=.ref TI) rfl ?_);refine Zg (K2 hTI rfl ?_);show wpAny _ _ (Builtin.SmallTypes.ownedTupleIsFree (.ref z) >>= _) _ _ _;refine Zg (zmn hz hT fun h₁ hz₁ hs₁=>?_);simp only [Y3,if_false];refine Zg ?_;rw [<- Ve];simp only [Ua,List.forIn_nil];refine Zg (Zg (Y5 ?_));show wpAny _ _ (Builtin.SmallTypes.nextOf (.ref i1) >>= _) _ _ _;refine Zg (Vp (h1.extBut hs₁.extBut D.i1z) (hl1.extBut hs₁.extBut D.l1z) hx fun h₂ h1₂ hs₂=>Zy (Zy ?_));refine Zg (Zg (Y5 ?_));show wpAny _ _ (Builtin.SmallTypes.nextOf (.ref i2) >>= _) _ _ _;refine Zg (Vp ((h2.extBut hs₁.extBut D.i2z).extBut hs₂.extBut D.i12.symm) ((hl2.extBut hs₁.extBut D.l2z).extBut hs₂.extBut D.l2i1) hy fun h₃ h2₃ hs₃=>Zy (Zy (Zy ?_)));refine Zg (wpAny_newTuple ?_ (by show 2<=sizeLine;decide));have hsz:h₃.objs.size=s.heap.objs.size:=by rw [hs₃.1,hs₂.1,hs₁.1]
 have kp:∀ c o,c≠z->c≠i1->c≠i2->s.heap.get? c=some o->h₃.get? c=some o:=fun c o c1 c2 c3 e=>hs₃.extBut _ _ c3 (hs₂.extBut _ _ c2 (hs₁.extBut _ _ c1 e))
 have hz₃:IsZ2 h₃ z TI TO T true:=hs₃.extBut _ _ D.i2z.symm (hs₂.extBut _ _ D.i1z.symm hz₁);have h1₃:=h1₂.extBut hs₃.extBut D.i12;refine Zy ⟨_,rfl,Zy ?_⟩;show Q (some (.ref h₃.objs.size)) _;have g:(h₃.push {cls:=.type "tuple", data:=.seq #[x,y]}).get? h₃.objs.size=some {cls:=.type "tuple", data:=.seq #[x,y]}:=Yf _ rfl;have z8:(h₃.push {cls:=.type "tuple", data:=.seq #[x,y]}).objs.size=h₃.objs.size+1:=Heap.size_push ..;rw [hsz] at g z8 |-;exact hQ _ (Zp _ hz₃) (h1₃.at fun o e=>Zp _ e) (h2₃.at fun o e=>Zp _ e) g z8 fun c o c1 c2 c3 e=>Zp _ (kp c o c1 c2 c3 e)
theorem ztn {z TI TO T i1 i2 l1 l2:Addr} {f1:Bool} {k1 k2:Nat} {xs ys:Array Value} {Q:Option Value->Shared->Prop} (hh:A.handled=none) (D:ZA z TI i1 i2 l1 l2) (hz:IsZ2 s.heap z TI TO T f1) (hT:∃ o,s.heap.get? T=some o) (hTI:IsPair s.heap TI (.ref i1) (.ref i2))
  (h1:s.heap.IsListIter i1 l1 k1) (h2:s.heap.IsListIter i2 l2 k2) (hl1:s.heap.IsList l1 xs) (hl2:s.heap.IsList l2 ys) (hx:xs[k1]? = none)
  (hQ:∀ h',(∀ c o,c≠z->c≠i1->c≠i2->s.heap.get? c=some o->h'.get? c=some o)->Q none {s with heap:=h'}):wpAny (model prog w) A (pyNext (.ref z)) Q E s:=by
 have hTy:s.TypeIs (.ref z) "zip" := ⟨_,hz,rfl⟩;unfold pyNext;refine Zg (wpAny_attempt (wpAny_callSpecial?_slot (name:=Str.ofString "__next__") hTy Je (wpAny_call_entry Je hTy F.entry_zip_next ?_ (F.args_zip_next_1 _))));show wpAny _ _ (field (.ref z) 2 >>= _) _ _ _;refine Zg (K5 hz rfl (x:=.bool false) rfl ?_);show wpAny _ _ (field (.ref z) 3 >>= _) _ _ _;refine Zg (K5 hz rfl (x:=.ref TI) rfl ?_);refine Zg (K2 hTI rfl ?_);show wpAny _ _ (Builtin.SmallTypes.ownedTupleIsFree (.ref z) >>= _) _ _ _;refine Zg (zmn hz hT fun h₁ hz₁ hs₁=>?_);simp only [Y3,if_false];refine Zg ?_;rw [<- Ve];simp only [Ua,List.forIn_nil];refine Zg (Zg (Y5 ?_));show wpAny _ _ (Builtin.SmallTypes.nextOf (.ref i1) >>= _) _ _ _;refine Zg (wpAny_nextOf_list_end (by first | exact hh | simp [hh]) (h1.extBut hs₁.extBut D.i1z) (hl1.extBut hs₁.extBut D.l1z) hx fun h₂ e hs₂ he=>?_);obtain⟨o,ho,hc⟩:=he
 refine Zg (wpAny_isInstance (T := "StopIteration") (b:=true) ⟨o,ho,hc⟩ isSubtype_stop ?_);exact Zy (hQ _ fun c o c1 c2 c3 e=>hs₂ _ _ c2 (hs₁.extBut _ _ c1 e))
def zlq (h:Heap) (xs ys:Array Value) (ts:List Addr):Prop:=∀ (j:Nat) (t:Addr),ts[j]? = some t->∃ x y,xs[j]? = some x/\ys[j]? = some y/\IsPair h t x y
theorem ztm {R:Result->Shared->Prop} {S z TI TO i1 i2 l1 l2:Addr} {xs ys:Array Value} (res:Value) (hh:A.in1.handled=none) (D:ZA z TI i1 i2 l1 l2) (hxy:xs.size=ys.size) (hz:xs.size<=sizeLine) (hS:∀ b∈[z,TI,TO,i1,i2,l1,l2],S≠b) :
  ∀ (k i:Nat) (s:Shared) (acc:Array Value) (c:Nat) (ts:List Addr) (T:Addr) (f1:Bool),xs.size-i=k->i<=xs.size->IsZ2 s.heap z TI TO T f1->T∈ts->IsPair s.heap TI (.ref i1) (.ref i2)->s.heap.IsListIter i1 l1 i->s.heap.IsListIter i2 l2 i->s.heap.IsList l1 xs->s.heap.IsList l2 ys ->
   s.heap.get? S=some {cls:=.type "list", dict:=none,data:=.seq acc c,slots:=#[]}->acc.toList=ts.map Value.ref->ts.length=i->zlq s.heap xs ys ts->(∀ t∈ts,t≠z/\t≠i1/\t≠i2/\t≠S)->ts.Nodup ->
   (∀ h' tk acc' c' ts',(∀ b o,b≠S->b≠z->b≠i1->b≠i2->s.heap.get? b=some o->h'.get? b=some o)->h'.get? S=some {cls:=.type "list", dict:=none,data:=.seq acc' c',slots:=#[]}->acc'.toList=ts'.map Value.ref->ts'.length=xs.size->zlq h' xs ys ts'->(∀ t∈ts',t∈ts\/s.heap.objs.size<=t)->ts'.Nodup->R (.ok (.ret res)) {s with heap:=h',toks:=tk}) ->
   codeAny (model prog w) A (.builtin "list.extend.loop" ⟨[.ref S,.ref z,res],[]⟩) R s:=by
 intro k;have sz:S≠z:=hS z (by simp);have s1:S≠i1:=hS i1 (by simp);have s2:S≠i2:=hS i2 (by simp);have sT:S≠TI:=hS TI (by simp);have sl1:S≠l1:=hS l1 (by simp);have sl2:S≠l2:=hS l2 (by simp);induction k with
 | zero=>
  intro i s acc c ts T f1 hk hi hZ hT hTI h1 h2 hl1 hl2 hSo hac hlen hP hts hnd hR;have e:i=xs.size:=by omega
  subst e;refine Q4 Jn ?_;rw [W2 Qb _];show wpAny _ A.in1 (pyNext (.ref z) >>= _) _ _ s;have aT:∃ o,s.heap.get? T=some o:=by
   obtain⟨j,hj⟩:=Wa hT
   obtain⟨x,y,_,_,e⟩:=hP j T hj
   exact⟨_,e⟩
  refine Zg (ztn hh D hZ aT hTI h1 h2 hl1 hl2 (by simp) fun h' kp=>?_);exact Zy (hR h' s.toks acc c ts (fun b o _ b2 b3 b4 e=>kp b o b2 b3 b4 e) (kp S _ sz s1 s2 hSo) hac hlen (fun j t e=>by
   obtain⟨x,y,e1,e2,e3⟩:=hP j t e
   obtain⟨t1,t2,t3,_⟩:=hts t (Yh e)
   exact⟨x,y,e1,e2,kp t _ t1 t2 t3 e3⟩) (fun t ht=>.inl ht) hnd)
 | succ k ih=>
  intro i s acc c ts T f1 hk hi hZ hT hTI h1 h2 hl1 hl2 hSo hac hlen hP hts hnd hR;have hlt:i<xs.size:=by omega
  refine Q4 Jn ?_;rw [W2 Qb _];show wpAny _ A.in1 (pyNext (.ref z) >>= _) _ _ s;have aT:∃ o,s.heap.get? T=some o:=by
   obtain⟨j,hj⟩:=Wa hT
   obtain⟨x,y,_,_,e⟩:=hP j T hj
   exact⟨_,e⟩
  have hx:xs[i]? = some (xs[i]'hlt):=Qm hlt;have hy:ys[i]? = some (ys[i]'(by omega)):=Qm (by omega);refine Zg (zou D hZ aT hTI h1 h2 hl1 hl2 hx hy fun h' a1 a2 a3 a4 a5 kp=>?_);have hS':=kp S _ sz s1 s2 hSo;have asz:acc.size=i:=by
   have:=congrArg List.length hac
   rw [Jf,Zc,hlen] at this;exact this
  have hSlt:S<s.heap.objs.size:=Zs hSo;show wpAny _ A.in1 (updateSeq S (·.push (.ref s.heap.objs.size)) >>= _) _ _ _;have up:∀ b o,b≠S->h'.get? b=some o->(h'.update S (Obj.mapSeq (·.push (.ref s.heap.objs.size)))).get? b=some o:=fun b o hb e=>(Yn _ _ (Wh hb)).trans e
  have old:∀ {b o},s.heap.get? b=some o->b≠s.heap.objs.size:=fun e=>Z8 (Zs e)
  refine Zg ?_;refine Qj hS' rfl (Zy ⟨Q3 Qb _,ih (i+1) _ (acc.push (.ref s.heap.objs.size)) _ (ts++[s.heap.objs.size]) T true (by omega) hlt (up z _ (Wh sz) a1) (W3 _ hT) (up TI _ (Wh sT) (kp TI _ D.TIz D.TIi1 D.TIi2 hTI)) (a2.at fun o e=>up i1 o (Wh s1) e) (a3.at fun o e=>up i2 o (Wh s2) e)
   (hl1.at fun o e=>up l1 o (Wh sl1) (kp l1 o D.l1z D.l1i1 D.l1i2 e)) (hl2.at fun o e=>up l2 o (Wh sl2) (kp l2 o D.l2z D.l2i1 D.l2i2 e)) (Wy _ hS' rfl) ?_ (by rw [Zw,hlen];rfl) ?_ ?_ ?_ ?_⟩) (by rw [asz];omega) (by show (acc.push _).size<=sizeLine+1;rw [Array.size_push,asz];omega)
  ·rw [Array.toList_push,hac,Wo];rfl
  ·intro j t e;rcases Yg j ts.length with q | q
   ·rw [Z9 q] at e;obtain⟨x,y,e1,e2,e3⟩:=hP j t e
    obtain⟨t1,t2,t3,t4⟩:=hts t (Yh e)
    exact⟨x,y,e1,e2,up t _ t4 (kp t _ t1 t2 t3 e3)⟩
   ·rw [Z0 q] at e;have e0:j-ts.length=0:=by
     cases q2:j-ts.length with
     | zero=>rfl
     | succ n=>rw [q2] at e;simp at e
    rw [e0] at e;simp at e
    subst e;have ej:j=i:=by omega
    subst ej;exact⟨_,_,hx,hy,up _ _ (Z4 hSlt) a4⟩
  ·intro t ht;rcases Ys.mp ht with ht | ht
   ·exact hts t ht
   ·rw [Zn.mp ht];refine⟨(old hZ).symm,?_,?_,(Z4 hSlt)⟩
    ·obtain⟨_,e,_⟩:=h1;exact (old e).symm
    ·obtain⟨_,e,_⟩:=h2;exact (old e).symm
  ·refine List.nodup_append.mpr ⟨hnd,Qt _ _,fun a ha b hb e=>?_⟩;rw [Zn.mp hb] at e;obtain⟨j,hj⟩:=Wa ha
   obtain⟨x,y,_,_,e3⟩:=hP j a hj
   exact old e3 e
  ·intro h'' tk acc' c' ts' kp2 e1 e2 e3 e4 e5 e6;have sz2:(h'.update S (Obj.mapSeq (·.push (.ref s.heap.objs.size)))).objs.size=s.heap.objs.size+1:=by rw [Kc,a5]
   refine hR h'' tk acc' c' ts' (fun b o b1 b2 b3 b4 e=>kp2 b o b1 b2 b3 b4 (up b o b1 (kp b o b2 b3 b4 e))) e1 e2 e3 e4 (fun t ht=>?_) e6;rcases e5 t ht with q | q
   ·rcases Ys.mp q with q | q
    ·exact .inl q
    ·exact .inr (by rw [Zn.mp q];exact Zj _)
   ·exact .inr (by
     have q':(h'.update S (Obj.mapSeq (·.push (.ref s.heap.objs.size)))).objs.size<=t:=q;rw [sz2] at q';exact Nat.le_of_succ_le q')
theorem znr:typeLookup (.type "zip") "__len__" = pure none:=by rw [typeLookup_type,V1];kernel_rfl
theorem zkg:typeLookup (.type "zip") "__length_hint__" = pure none:=by rw [typeLookup_type,V1];kernel_rfl
theorem ane {a b:Nat} (h:a≠b):@Ne Addr a b:=h
theorem za_of {n l1 l2:Nat} (h1:l1<n) (h2:l2<n):ZA (n+4) (n+2) n (n+1) l1 l2:=by
 refine⟨?_,?_,?_,?_,?_,?_,?_,?_,?_,?_,?_,?_⟩ <;> exact ane (by omega)
theorem zap_of {n l1 l2:Nat} (h1:l1<n) (h2:l2<n):ZipApart (n+4) (n+2) (n+3) n (n+1) l1 l2:=by
 refine⟨?_,?_,?_,?_,?_,?_,?_,?_,?_,?_,?_,?_,?_,?_,?_,?_,?_,?_⟩ <;> exact ane (by omega)
theorem zif {z TI TO i1 i2 l1 l2:Addr} {xs ys:Array Value} {Q:Value->Shared->Prop} (hh:A.handled=none) (D:ZA z TI i1 i2 l1 l2) (DD:ZipApart z TI TO i1 i2 l1 l2) (hxy:xs.size=ys.size) (hz:xs.size<=sizeLine)
  (hZ:IsZip s.heap z TI TO .none) (hTI:IsPair s.heap TI (.ref i1) (.ref i2)) (hTO:IsPair s.heap TO .none .none) (h1:s.heap.IsListIter i1 l1 0) (h2:s.heap.IsListIter i2 l2 0) (hl1:s.heap.IsList l1 xs) (hl2:s.heap.IsList l2 ys)
  (hQ:∀ h' tk acc c ts,(∀ b o,b≠z->b≠TO->b≠i1->b≠i2->s.heap.get? b=some o->h'.get? b=some o)->h'.get? s.heap.objs.size=some {cls:=.type "list", dict:=none,data:=.seq acc c,slots:=#[]}->acc.toList=ts.map Value.ref->ts.length=xs.size->zlq h' xs ys ts->(∀ t∈ts,s.heap.objs.size<t)->ts.Nodup->Q (.ref s.heap.objs.size) {s with heap:=h',toks:=tk}) :
  wpAny (model prog w) A (call (.type "list") [.ref z]) Q E s:=by
 have old:∀ {b o},s.heap.get? b=some o->b<s.heap.objs.size:=fun e=>Zs e
 have zl:=old hZ;have TIl:=old hTI;have TOl:=old hTO;have i1l:i1<s.heap.objs.size:=by obtain⟨_,e,_⟩:=h1;exact old e
 have i2l:i2<s.heap.objs.size:=by obtain⟨_,e,_⟩:=h2;exact old e
 have l1l:l1<s.heap.objs.size:=by obtain⟨_,e,_⟩:=hl1;exact old e
 have l2l:l2<s.heap.objs.size:=by obtain⟨_,e,_⟩:=hl2;exact old e
 refine callType_codes (Q₁:=fun obj s₁=>obj=.ref s.heap.objs.size/\s₁={s with heap:=s.heap.push {cls:=.type "list", data:=.seq #[]} }) F.called_list (F.typeCall_list_1 _) F.entry_list_init
  (code_list_new _ ⟨rfl,rfl⟩) fun obj s₁ h₁=>?_
 obtain⟨rfl,rfl⟩:=h₁
 have hS:(s.heap.push {cls:=.type "list", data:=.seq #[]}).get? s.heap.objs.size=some {cls:=.type "list", data:=.seq #[]}:=Yf _ rfl;refine⟨⟨_,hS,rfl⟩,F.args_list_init_2 _ _,?_⟩
 show wpAny _ A.in1.in1 (do let old <- Builtin.List.listItems (.ref s.heap.objs.size);Builtin.List.listUpdate (.ref s.heap.objs.size) (fun _=>#[]);letGo old.toList.reverse;Builtin.List.listExtendWith (.ref s.heap.objs.size) (.ref z) .none) _ _ _;refine Zg (listItems_at hS rfl ?_);refine Zg (listUpdate_at hS rfl ?_ (Yi _) (Yi _));have hS₂:=Wy (Obj.mapSeq (fun _=>(#[]:Array Value))) hS rfl;have hsz0:((s.heap.push {cls:=.type "list", data:=.seq #[]}).update s.heap.objs.size (Obj.mapSeq (fun _=>(#[]:Array Value)))).objs.size=s.heap.objs.size+1:=by rw [Kc,Heap.size_push]
 have oth:∀ b o,b<s.heap.objs.size->s.heap.get? b=some o->((s.heap.push {cls:=.type "list", data:=.seq #[]}).update s.heap.objs.size (Obj.mapSeq (fun _=>(#[]:Array Value)))).get? b=some o:=
  fun b o hb e=>(Yn _ _ (Z4 hb)).trans (Zp _ e)
 refine Zg (Jr ?_);generalize hH1:(s.heap.push {cls:=.type "list", data:=.seq #[]}).update s.heap.objs.size (Obj.mapSeq (fun _=>(#[]:Array Value)))=H1 at *;unfold Builtin.List.listExtendWith;have hTy:Shared.TypeIs {s with heap:=H1} (.ref z) "zip" := ⟨_,oth z _ zl hZ,rfl⟩;refine Zg (wpAny_typeOf hTy ?_);have n1:Builtin.List.listSameRef (.ref s.heap.objs.size) (.ref z)=false:=by simp [Builtin.List.listSameRef,Z4 zl]
 rw [if_neg (by rw [n1];decide)];refine Zg (wpAny_pyIter_zip (oth z _ zl hZ) ?_);refine Zg (Y5 ?_);unfold Builtin.List.listLengthHint;refine Zg (Us hTy znr ?_);show wpAny _ _ (specialOf (Value.ref z) (Str.ofString "__length_hint__") >>= _) _ _ _;refine Zg (Us hTy zkg ?_);refine Zy ?_;show wpAny _ _ (rule "list.extend.makes-room" >>= fun _=>Builtin.List.listTouch (.ref s.heap.objs.size) >>= fun _=>again (.builtin "list.extend.loop" ⟨[.ref s.heap.objs.size,.ref z,.none],[]⟩)) _ _ _;refine Zg (U8 ?_);refine Zg ?_;show wpAny _ _ (updateSeq s.heap.objs.size (·.push .none) >>= fun _=>updateSeq s.heap.objs.size (·.pop)) _ _ _;refine Zg (Qj hS₂ rfl ?_);have hS₃:=Wy (Obj.mapSeq (·.push Value.none)) hS₂ rfl;refine Qj (hz:=by seq_fits) hS₃ rfl ?_;have hS₄:=Wy (Obj.mapSeq (·.pop)) hS₃ rfl;have oth2:∀ b o,b<s.heap.objs.size->s.heap.get? b=some o->((H1.update s.heap.objs.size (Obj.mapSeq (·.push Value.none))).update s.heap.objs.size (Obj.mapSeq (·.pop))).get? b=some o:=
  fun b o hb e=>(Yn _ _ (Z4 hb)).trans ((Yn _ _ (Z4 hb)).trans (oth b o hb e))
 have hsz2:((H1.update s.heap.objs.size (Obj.mapSeq (·.push Value.none))).update s.heap.objs.size (Obj.mapSeq (·.pop))).objs.size=s.heap.objs.size+1:=by rw [Kc,Kc];exact hsz0
 generalize hH2:(H1.update s.heap.objs.size (Obj.mapSeq (·.push Value.none))).update s.heap.objs.size (Obj.mapSeq (·.pop))=H2 at *;have S0:∃ c0,H2.get? s.heap.objs.size=some {cls:=.type "list", dict:=none,data:=.seq #[] c0,slots:=#[]}:=⟨_,hS₄⟩;obtain⟨c0,S0⟩:=S0
 have z2:=oth2 z _ zl hZ;have TI2:=oth2 TI _ TIl hTI;have TO2:=oth2 TO _ TOl hTO;have g1:=h1.at fun o e=>oth2 i1 o i1l e
 have g2:=h2.at fun o e=>oth2 i2 o i2l e
 have gl1:=hl1.at fun o e=>oth2 l1 o l1l e
 have gl2:=hl2.at fun o e=>oth2 l2 o l2l e
 refine Zy ⟨Q3 Qb _,Q4 Jn ?_⟩;rw [W2 Qb _];show wpAny _ _ (pyNext (.ref z) >>= _) _ _ _;rcases Wj xs.size with e0 | e0
 ·refine Zg (wpAny_pyNext_zip_end (by simp [hh]) DD z2 TI2 TO2 g1 g2 gl1 gl2 (.inl (by simp [e0])) fun h' kp=>?_);exact Zy ⟨rfl,hQ h' s.toks #[] c0 [] (fun b o b1 b2 b3 b4 e=>kp b o b1 b2 b3 b4 (oth2 b o (old e) e)) (kp _ _ (Z4 zl) (Z4 TOl) (Z4 i1l) (Z4 i2l) S0) rfl (by rw [e0];rfl) (fun j t e=>by simp at e) (fun t ht=>by cases ht) List.nodup_nil⟩
 ·have hx:xs[0]? = some (xs[0]'e0):=Qm e0;have hy:ys[0]? = some (ys[0]'(by omega)):=Qm (by omega);refine Zg (wpAny_pyNext_zip_item DD z2 TI2 TO2 g1 g2 gl1 gl2 hx hy fun h' a1 a2 a3 a4 a5 a6 kp=>?_);replace a1:IsZ2 h' z TI TO H2.objs.size false:=a1
  replace a5:IsPair h' H2.objs.size (xs[0]'e0) (ys[0]'(by omega)):=a5
  replace a6:h'.objs.size=H2.objs.size+1:=a6
  show wpAny _ _ (updateSeq s.heap.objs.size (·.push (.ref H2.objs.size)) >>= _) _ _ _;rw [hsz2] at a1 a5 a6 |-;have S1:=kp _ _ (Z4 zl) (Z4 TOl) (Z4 i1l) (Z4 i2l) S0;refine Zg ?_;have up:∀ b o,b≠s.heap.objs.size->h'.get? b=some o->(h'.update s.heap.objs.size (Obj.mapSeq (·.push (.ref (s.heap.objs.size+1))))).get? b=some o:=fun b o hb e=>(Yn _ _ (Wh hb)).trans e
  have ne:∀ {b:Addr},b<s.heap.objs.size->b≠s.heap.objs.size:=fun h=>Z8 h
  refine Qj S1 rfl (Zy ⟨Q3 Qb _,ztm .none (by simp [hh]) D hxy hz (fun b hb=>?_) (xs.size-1) 1 _ _ _ [s.heap.objs.size+1] (s.heap.objs.size+1) false rfl e0 (up z _ (ne zl) a1) (.head _) (up TI _ (ne TIl) (kp TI _ DD.TIz DD.TITO DD.TIi1 DD.TIi2 TI2)) (a3.at fun o e=>up i1 o (ne i1l) e) (a4.at fun o e=>up i2 o (ne i2l) e)
   (gl1.at fun o e=>up l1 o (ne l1l) (kp l1 o DD.l1z DD.l1TO DD.l1i1 DD.l1i2 e)) (gl2.at fun o e=>up l2 o (ne l2l) (kp l2 o DD.l2z DD.l2TO DD.l2i1 DD.l2i2 e)) (Wy _ S1 rfl) rfl rfl (fun j t e=>?_) (fun t ht=>?_) (Qt _ _) fun h'' tk acc' c' ts' kp2 e1 e2 e3 e4 e5 e6=>?_⟩)
  ·simp only [Zf,Yj,or_false] at hb;rcases hb with e | e | e | e | e | e | e <;> rw [e]
   ·exact Z4 zl
   ·exact Z4 TIl
   ·exact Z4 TOl
   ·exact Z4 i1l
   ·exact Z4 i2l
   ·exact Z4 l1l
   ·exact Z4 l2l
  ·cases j with
   | zero=>
    simp at e
    subst e;exact⟨_,_,hx,hy,up _ _ (Jz _) a5⟩
   | succ j=>simp at e
  ·rw [Zn.mp ht];exact⟨Z4 (Q6 zl),Z4 (Q6 i1l),Z4 (Q6 i2l),Jz _⟩
  ·refine⟨rfl,hQ h'' tk acc' c' ts' (fun b o b1 b2 b3 b4 e=>kp2 b o (ne (old e)) b1 b3 b4 (up b o (ne (old e)) (kp b o b1 b2 b3 b4 (oth2 b o (old e) e)))) e1 e2 e3 e4 (fun t ht=>?_) e6⟩
   rcases e5 t ht with q | q
   ·rw [Zn.mp q];exact Qa _
   ·have q':(h'.update s.heap.objs.size (Obj.mapSeq (·.push (.ref (s.heap.objs.size+1))))).objs.size<=t:=q;rw [Kc,a6] at q';exact Zd (Q6 (Qa _)) q'
end
end DL
namespace DL
open PySem L2 PyProof.Rows
def updL (H:Hp):List (Addr×HO)->Hp
 | []=>H
 | (a,o)::L=>upd (updL H L) a o
theorem zgp {H:Hp}:∀ {L:List (Addr×HO)} {a:Addr} {o:HO},updL H L a=some o->(a,o)∈L\/(H a=some o/\a∉L.map (·.1))
 | [],a,o,h=>.inr ⟨h,by simp⟩
 | (b,u)::L,a,o,h=>by
  unfold updL at h;by_cases e:a=b
  ·subst e;rw [Gj] at h;cases h;exact .inl (.head _)
  ·rw [Gh e] at h;rcases zgp h with q | q
   ·exact .inl (.tail _ q)
   ·exact .inr ⟨q.1,by simp only [Yk,Zf,not_or];exact⟨e,q.2⟩⟩
theorem zad {H:Hp}:∀ {L:List (Addr×HO)} {a:Addr},a∉L.map (·.1)->updL H L a=H a
 | [],_,_=>rfl
 | (b,u)::L,a,h=>by
  simp only [Yk,Zf,not_or] at h;unfold updL;rw [Gh h.1];exact zad h.2
theorem zpc {H:Hp}:∀ {L:List (Addr×HO)} {a:Addr} {o:HO},(L.map (·.1)).Nodup->(a,o)∈L->updL H L a=some o
 | (b,u)::L,a,o,nd,h=>by
  rw [Yk,Wn] at nd;unfold updL;rcases Zf.mp h with e | h
  ·cases e;rw [Gj]
  ·have ne:a≠b:=fun e=>nd.1 (e ▸ Y4 (f:=(·.1)) h)
   rw [Gh ne];exact zpc nd.2 h
section
variable {X:Cx} {pins:List (Addr×Obj)} {σ:L2.St} {H:Hp} {s:Shared} {h':Heap}
theorem Inv.laidL {t':Nat} {L:List (Addr×HO)} (I:L2.Inv X pins σ H s) (k:∀ b u,s.heap.get? b=some u->h'.get? b=some u) (hp:∀ p∈L,s.heap.objs.size<=p.1) (new:∀ p∈L,ObjOk X.prog X.w (updL H L) h' p.1 p.2) :
  L2.Inv X pins σ (updL H L) {s with heap:=h',toks:=t'}:=by
 have notL:∀ b,(∃ u,s.heap.get? b=some u)->b∉L.map (·.1):=fun b ⟨u,e⟩ hm=>by
  obtain⟨p,hpm,rfl⟩:=Zv.mp hm
  exact Nat.lt_irrefl _ (Zd (Zs e) (hp p hpm))
 have Hn:∀ p∈L,H p.1=none:=fun p hpm=>I.hok.fresh (hp p hpm)
 have keepH:∀ b u,H b=some u->updL H L b=some u:=fun b u e=>by
  rw [zad fun hm=>by
   obtain⟨p,hpm,rfl⟩:=Zv.mp hm
   rw [Hn p hpm] at e;cases e]
  exact e
 refine I.un (t':=t') ⟨fun b u q _ _ _=>k b u q,fun b u q _ _ _=>⟨u.slots,k b u q⟩,fun b u q n _=>by rw [zad (notL b ⟨u,q⟩)];exact n,fun b u q _=>⟨u,k b u q⟩,fun b xs q=>keepH b _ q,fun b u xs q=>keepH b _ q,fun b ps q=>⟨#[],by rw [keepH b _ q];simp⟩⟩ fun a o e=>?_;rcases zgp e with q | ⟨q,_⟩
 ·exact new _ q
 ·exact (I.hok a o q).stay (fun c v _ z=>k c v z) (fun c z=>keepH c _ z) fun c xs z=>keepH c _ z
end
section
variable {K:PySem.W.Frag} {H0 Fc F H:Hp} {σ:L2.St} {ρ:Rho}
theorem ER.layL:∀ (L:List (Addr×HO)),ER K H0 Fc F H σ ρ->(L.map (·.1)).Nodup->(∀ p∈L,H p.1=none)->ER K H0 Fc (updL F L) (updL H L) σ ρ/\Same F (updL F L)
 | [],R,_,_=>⟨R,Same.refl _⟩
 | (a,o)::L,R,nd,hn=>by
  rw [Yk,Wn] at nd;obtain⟨R1,s1⟩:=ER.layL L R nd.2 fun p hp=>hn p (.tail _ hp)
  obtain⟨R2,s2⟩:=R1.lay (a:=a) o (by rw [zad nd.1];exact hn (a,o) (.head _))
  exact⟨R2,s1.trans s2⟩
end
def zipD (a b:List D):List D:=(a.zip b).map fun p=>D.tup [p.1,p.2]
def zipL (ts:List Addr) (ps:List (V×V)):List (Addr×HO):=(ts.zip ps).map fun z=>(z.1,HO.tup [z.2.1,z.2.2])
theorem zlr {ts:List Addr} {ps:List (V×V)} (h:ts.length=ps.length):(zipL ts ps).map (·.1)=ts:=by
 unfold zipL;rw [Wb];show (ts.zip ps).map (fun z=>z.1)=ts;exact List.map_fst_zip (by omega)
theorem zrx {K:PySem.W.Frag} {F:Hp}:∀ {a b:List D} {xs ys:List V} {ts:List Addr} {G:Hp},DenL K F a xs->DenL K F b ys->xs.length=ys.length->ts.length=xs.length->Same F G->(∀ p∈zipL ts (xs.zip ys),G p.1=some p.2)->DenL K G (zipD a b) (ts.map V.ref)
 | [],b,xs,ys,ts,G,h1,h2,e1,e2,s,hG=>by
  have z:=h1.inv_nil;subst z;have:ts=[]:=List.length_eq_zero_iff.mp (by simpa using e2)
  subst this;exact DenL.nil
 | d::a,b,xs,ys,ts,G,h1,h2,e1,e2,s,hG=>by
  obtain⟨v,vs,z,q,r⟩:=h1.inv_cons
  subst z;cases b with
  | nil=>rw [h2.inv_nil] at e1;cases e1
  | cons d2 b=>
   obtain⟨v2,vs2,z2,q2,r2⟩:=h2.inv_cons
   subst z2;cases ts with
   | nil=>cases e2
   | cons t ts=>
    have g0:=hG (t,HO.tup [v,v2]) (.head _);refine DenL.cons (Den.tup_mk (SqT.of g0) (DenL.cons (q.mono s) (DenL.cons (q2.mono s) DenL.nil))) ?_;exact zrx r r2 (by simpa using e1) (by simpa using e2) s fun p hp=>hG p (.tail _ hp)
theorem zkh:∀ {xs:List V} {us:List Value},Vals xs us->∀ (j:Nat) (u:Value),us[j]? = some u->∃ x,xs[j]? = some x/\RelV x u
 | [],_,h,j,u,e=>by cases h;simp at e
 | x::xs,_,h,0,u,e=>by
  cases h with
  | cons h1 h2=>simp at e;subst e;exact⟨x,rfl,h1⟩
 | x::xs,_,h,j+1,u,e=>by
  cases h with
  | cons h1 h2=>
   obtain⟨y,e1,e2⟩:=zkh h2 j u (by simpa using e)
   exact⟨y,by simpa using e1,e2⟩
theorem zlu:∀ ts:List Addr,Vals (ts.map V.ref) (ts.map Value.ref)
 | []=>.nil
 | t::ts=>.cons rfl (zlu ts)
section
variable {X:Cx}
theorem zvf {a b:List D} (hX:X.calm=true) (hab:a.length=b.length):zzf X (.type "list") (.type "zip") [.lst a,.lst b] (.new (zipD a b)):=by
 refine⟨fun vs H Q=>∃ p q xs ys,vs=[.ref p,.ref q]/\SqL X.K H p xs/\SqL X.K H q ys/\xs.length=ys.length/\∀ (l:Addr) (ts:List Addr),ts.length=xs.length->(l::ts).Nodup->(∀ t∈l::ts,H t=none)->Q (.ref l) (upd (updL H (zipL ts (xs.zip ys))) l (.lst (ts.map V.ref))),fun pins s σ H vs us Q I r h=>?_,fun H0 Fc H F σ ρ vs Q R q k=>?_⟩
 ·obtain⟨p,q,xs,ys,rfl,hl1,hl2,hxy,hq⟩:=h
  cases r with
  | cons r1 r=>
   cases r with
   | cons r2 r=>
    cases r;cases r1;cases r2;obtain⟨its1,v1,pl1,z1⟩:=I.list hl1
    obtain⟨its2,v2,pl2,z2⟩:=I.list hl2
    have n1:=v1.length;have n2:=v2.length;have lp:p<s.heap.objs.size:=by obtain⟨o,ho,_⟩:=pl1.isList;exact Zs ho
    have lq:q<s.heap.objs.size:=by obtain⟨o,ho,_⟩:=pl2.isList;exact Zs ho
    refine call_zip_2 pl1.isList pl2.isList fun h1 g1 g2 g3 g4 g5 g6 kp1=>?_;refine zif (s:={s with heap:=h1}) (I.ok.hd hX) (za_of lp lq) (zap_of lp lq) (by simp only [Zq];omega) (by simp only [Zq];omega) g1 g2 g3 g4 g5 (pl1.isList.at fun o e=>kp1 _ o e) (pl2.isList.at fun o e=>kp1 _ o e) fun h2 tk acc c ts kp2 e1 e2 e3 e4 e5 e6=>?_;have sz1:∀ n:Nat,(s.heap.objs.size+n:Addr)≠s.heap.objs.size\/n=0:=fun n=>by
     rcases Wj n with z | z
     ·exact .inr z
     ·exact .inl (ane (by omega))
    have le:s.heap.objs.size<=h1.objs.size:=by rw [g6];exact Kf _ _
    have tl:ts.length=xs.length:=by rw [e3,Zq,<- n1]
    have kp:∀ b u,s.heap.get? b=some u->h2.get? b=some u:=fun b u e=>by
     have hb:=Zs e;exact kp2 b u (Z8 (Zd hb (Kf _ 4))) (Z8 (Zd hb (Kf _ 3))) (Z8 hb) (Z8 (Q6 hb)) (kp1 b u e)
    have hLs:∀ t∈h1.objs.size::ts,s.heap.objs.size<=t:=fun t ht=>by
     rcases Zf.mp ht with e | ht
     ·rw [e];exact le
     ·exact Ya le (Ja (e5 t ht))
    have nd:(h1.objs.size::ts).Nodup:=Wn.mpr ⟨fun hm=>Nat.lt_irrefl _ (e5 _ hm),e6⟩;have zl:(xs.zip ys).length=xs.length:=by rw [J3];omega
    have fst:(zipL ts (xs.zip ys)).map (·.1)=ts:=zlr (by rw [zl];exact tl);have hsize:∀ t∈ts,t∈(zipL ts (xs.zip ys)).map (·.1):=fun t ht=>by rw [fst];exact ht
    show EP X pins σ Q (.ref h1.objs.size) {s with heap:=h2,toks:=tk};refine⟨.ref h1.objs.size,updL H ((h1.objs.size,HO.lst (ts.map V.ref))::zipL ts (xs.zip ys)),Inv.laidL (t':=tk) I kp (fun pr hpr=>?_) (fun pr hpr=>?_),rfl,hq _ ts tl nd fun t ht=>I.hok.fresh (hLs t ht)⟩
    ·refine hLs _ ?_;rcases Zf.mp hpr with e | hm
     ·rw [e];exact .head _
     ·exact .tail _ (by rw [<- fst];exact Y4 hm)
    ·rcases Zf.mp hpr with e | hm
     ·rw [e];show ObjOk X.prog X.w _ h2 _ (.lst (ts.map V.ref));refine⟨by rw [Zc,tl];exact z1,ts.map Value.ref,c,zlu ts,?_⟩
      have:acc=(ts.map Value.ref).toArray:=by apply Vw.mp;rw [e2]
      rw [<- this];exact e1
     ·unfold zipL at hm;obtain⟨zz,hz,e⟩:=Zv.mp hm
      obtain⟨j,hj⟩:=Wa hz
      rw [Kt] at hj;obtain⟨j1,j2⟩:=hj
      rw [Kt] at j2;obtain⟨x,y,x1,x2,x3⟩:=e4 j zz.1 j1
      obtain⟨vx,ex,rx⟩:=zkh v1 j x (by simpa using x1)
      obtain⟨vy,ey,ry⟩:=zkh v2 j y (by simpa using x2)
      rw [j2.1] at ex;rw [j2.2] at ey;cases ex;cases ey;rw [<- e];show ObjOk X.prog X.w _ h2 zz.1 (.tup [zz.2.1,zz.2.2]);exact⟨by show 2<=sizeLine;decide,[x,y],.cons rx (.cons ry .nil),_,x3,rfl,0,rfl⟩
 ·obtain⟨v,u,e,q1,q2⟩:=q.two
  obtain⟨p,xs,e1,sq1,d1⟩:=q1.lst
  obtain⟨p2,ys,e2,sq2,d2⟩:=q2.lst
  rw [e1,e2] at e;have l1:=d1.length;have l2:=d2.length;refine⟨p,p2,xs,ys,e,R.sub.seq sq1,R.sub.seq sq2,by omega,fun l ts tl nd hn=>?_⟩
  rw [Wn] at nd;have zl:(xs.zip ys).length=xs.length:=by rw [J3];omega
  have fst:(zipL ts (xs.zip ys)).map (·.1)=ts:=zlr (by rw [zl];exact tl);have hnL:∀ pr∈zipL ts (xs.zip ys),H pr.1=none:=fun pr hpr=>hn _ (.tail _ (by rw [<- fst];exact Y4 hpr))
  obtain⟨R1,s1⟩:=ER.layL (zipL ts (xs.zip ys)) R (by rw [fst];exact nd.2) hnL
  have hl:updL H (zipL ts (xs.zip ys)) l=none:=by
   rw [zad (by rw [fst];exact nd.1)];exact hn l (.head _)
  obtain⟨R4,hF,h0⟩:=R1.put (.lst (ts.map V.ref)) hl
  refine k _ _ _ s1 R4 (RW.n hF h0 Gj ?_);exact zrx d1 d2 (by omega) tl s1 fun pr hpr=>zpc (by rw [fst];exact nd.2) hpr
end
end DL
namespace DL
open PySem L2 PyProof.Rows
section
variable {prog:Program} {w:World} {A:Around} {E:Value->Shared->Prop} {s:Shared}
theorem zyy {it t:Addr} {items:Array Value} (hne:t≠it):∀ (n i:Nat) (s:Shared) (Q:List Value->Shared->Prop),s.heap.IsListIter it t i->s.heap.IsList t items->i+n<=items.size ->
  (∀ h',h'.IsListIter it t (i+n)->Heap.SameBut it s.heap h'->Q ((items.toList.drop i).take n) {s with heap:=h'})->wpAny (model prog w) A (draw (.ref it) n) Q E s
 | 0,i,s,Q,hit,_,_,hQ=>by
  show wpAny _ _ (pure []) Q E s;exact Zy (by simpa using hQ s.heap hit ⟨rfl,fun _ _=>rfl⟩)
 | n+1,i,s,Q,hit,ht,hle,hQ=>by
  have hlt:i<items.size:=by omega
  show wpAny _ _ (pyNext (.ref it) >>= _) Q E s;refine Zg (Vo hit ht (x:=items[i]) (by simp [hlt]) fun h₁ a₁ b₁=>?_);refine Zg (Y5 (zyy hne n (i+1) _ _ a₁ (ht.extBut b₁.extBut hne) (by omega) fun h₂ a₂ b₂=>Zy ?_));have e0:items.toList.drop i=items[i]::items.toList.drop (i+1):=by simp [Z1,hlt]
  have q:=hQ h₂ (by rw [show i+(n+1)=i+1+n by omega];exact a₂) (b₁.trans b₂);rw [e0,List.take_succ_cons] at q;exact q
theorem ztq {t:Addr} {items:Array Value} {Q:List Value->Shared->Prop} (hh:A.handled=none) (ht:s.heap.IsList t items)
  (hQ:∀ h',Heap.ExtBut s.heap.objs.size s.heap h'->Q items.toList {s with heap:=h'}):wpAny (model prog w) A (unpackItems (.ref t) items.size none) Q E s:=by
 have hlt:t≠s.heap.objs.size:=by obtain⟨o,ho,_⟩:=ht;exact Z8 (Zs ho)
 unfold unpackItems;refine Zg ?_
 ·unfold notIterableAtAll;refine Zg (Us ht.typeIs slot_list_iter.lookup ?_);refine Zy ?_;simp only [Y3,if_false];refine Zg (Y5 (Uc ht ?_));refine Zg (Y5 (zyy hlt items.size 0 _ _ ⟨_,Yf _ rfl,rfl,rfl⟩ (ht.push _) (by omega) fun h₁ a₁ b₁=>?_));have al:List.take items.size (List.drop 0 items.toList)=items.toList:=by
   rw [Jc];exact Qz (by simp)
  rw [al,if_neg (by simp)];have t₁:h₁.IsList t items:=(ht.push _).extBut b₁.extBut hlt;refine Zg (Y5 (Vx hh a₁ t₁ (by simp) fun h₂ e₂=>?_));simp only [Option.isSome_none,Y3,if_false];exact Zy (hQ h₂ fun b o hb e=>e₂ b o hb (b₁.extBut b o hb (Zp _ e)))
theorem zxh {env:Env} {elts:List Expr} {x1} {pos:Pos} {t:Addr} {items:Array Value} {Q:Unit->Shared->Prop} (hh:A.handled=none) (ht:s.heap.IsList t items)
  (hn:(assignEach elts env).length=items.size) (hst:(assignEach elts env).findIdx? (·.1)=none)
  (h:∀ h',Heap.ExtBut s.heap.objs.size s.heap h'->wpAny (model prog w) A (assignInOrder ((assignEach elts env).map (·.2)) items.toList) Q E {s with heap:=h'}) :
  wpAny (model prog w) A (assign (.Tuple elts x1 pos) env (.ref t)) Q E s:=by
 rw [PyProof.Rows.assign_Tuple];refine Zg (K4 ?_);unfold unpack;rw [hn,hst];exact Zg (Y5 (ztq hh ht h))
end
section
variable {X:Cx} {pos:Pos}
def gLst (K:PySem.W.Frag) (n:Nat) (t:TGs):TG:=fun v σ H Q=>∃ a xs,v=.ref a/\SqL K H a xs/\xs.length=n/\t xs σ H Q
theorem pg_lst {es:List Expr} {k:Nat} {t:TGs} {n:Nat} (hc:X.calm=true) (h:PGs X es t) (hn:(assignEach es X.env).length=n) (hst:(assignEach es X.env).findIdx? (·.1)=none):PG X (.Tuple es k pos) (gLst X.K n t):=by
 intro pins s σ H v u Q I r hw;obtain⟨a,xs,e1,hq,hl,hw⟩:=hw
 subst e1;cases r;obtain⟨its,rv,ht,hz⟩:=I.list hq
 refine zxh (I.ok.hd hc) ht.isList (by simp [hn,<- hl,rv.length]) hst fun h' hx=>?_;have I1:Inv X pins σ H {s with heap:=h'}:=I.kept (t':=s.toks) fun b o e=>hx b o (Z8 (Zs e)) e
 exact h pins _ σ H xs _ Q I1 (by simpa using rv) hw
theorem DG.lst {ts:List Expr} {ds:List D} {ρ ρ':RhoS} {k} (hc:X.calm=true) (h:DGs X ts ds ρ ρ') (hs:ts.all Ga=true) (hl:ds.length=ts.length):DG X (.Tuple ts k pos) (.lst ds) ρ ρ':=fun H0 Fc=>
 PG.mono (pg_lst (n:=ts.length) hc (h H0 Fc) (Gw hs).1 (Gw hs).2) fun v σ H Q ⟨F,S,q,k⟩=>by
  obtain⟨a,xs,e,sq,r⟩:=q.lst
  exact⟨a,xs,e,S.sub.seq sq,by rw [r.length];exact hl,F,S,r,k⟩
end
end DL
namespace DL
open PySem L2 PyProof.Rows
open PySem.SeqAt (EqAt)
def LtAt (A:Around) (s:Shared) (y x:Value) (b:Bool):Prop:=
 ∀ (prog:Program) (w:World) (E:Value->Shared->Prop) (Q:Value->Shared->Prop),Q (.bool b) s->wpAny (model prog w) A (richCompare .Lt y x) Q E s
def fstD (e0 r0 e1 r1:Bool):Bool:=if e0=true then (if e1=true then false else r1) else r0
theorem two_lt {l b:Addr} {x0 x1 y0 y1:Value} {n n2:Nat} {dd dd2:Option Addr} {sl sl2:Array (Option Value)} (e0 r0 e1 r1:Bool) :
  Meets (Builtin.«tuple.__lt__» ⟨[.ref l,.ref b],[]⟩)
   (fun A R s=>s.heap.get? l=some {cls:=.type "tuple", dict:=dd,data:=.seq #[x0,x1] n,slots:=sl}/\s.heap.get? b=some {cls:=.type "tuple", dict:=dd2,data:=.seq #[y0,y1] n2,slots:=sl2} /\
    EqAt A.in1 s x0 y0 e0/\(e0=false->LtAt A.in1 s x0 y0 r0)/\(e0=true->EqAt A.in1 s x1 y1 e1/\(e1=false->LtAt A.in1 s x1 y1 r1)) /\
    R (.ok (.ret (.bool (fstD e0 r0 e1 r1)))) s):=
 .of_wp fun prog w A R s h=>by
  obtain⟨hp,g,d,tk,os⟩:=s;obtain⟨hl,hb,h1,h2,h3,h⟩:=h
  have f2:=AutoSeq1.sub_tuple_tuple;wp_walk using J1 hl,J1 hb,wpAny_forIn_list _ (fun rest b s'=>b.1=none/\s'=⟨hp,g,d,tk,os⟩ /\
   ((rest=[(x0,y0),(x1,y1)])\/(rest=[(x1,y1)]/\e0=true)\/(rest=[]/\e0=true/\e1=true))) _
  case turn=>
   rintro⟨y,x⟩ rest b s' ⟨hb',rfl,hz⟩
   rcases hz with hz | ⟨hz,q0⟩ | ⟨hz,_⟩
   ·cases hz;refine Zg (h1 prog w _ _ ?_);cases e0 with
    | true=>wp_walk;exact⟨rfl,rfl,.inr (.inl ⟨rfl,rfl⟩)⟩
    | false=>
     refine Zg (U8 (Zg (h2 rfl prog w _ _ ?_)));wp_walk
     exact⟨_,rfl,h⟩
   ·cases hz;subst q0;obtain⟨h3,h4⟩:=h3 rfl
    refine Zg (h3 prog w _ _ ?_);cases e1 with
    | true=>wp_walk;exact⟨rfl,rfl,.inr (.inr ⟨rfl,rfl,rfl⟩)⟩
    | false=>
     refine Zg (U8 (Zg (h4 rfl prog w _ _ ?_)));wp_walk
     exact⟨_,rfl,h⟩
   ·cases hz
  case fin=>
   rintro⟨b1,b2⟩ s' ⟨hb',rfl,hz⟩
   simp only at hb'
   subst hb';rcases hz with hz | ⟨hz,_⟩ | ⟨_,q0,q1⟩
   ·cases hz
   ·cases hz
   ·subst q0;subst q1;wp_walk
    exact⟨_,rfl,h⟩
  case h=>exact⟨rfl,rfl,.inl rfl⟩
theorem Reads.tup2 {h:Heap} {v:Value} {x y:PyData} {as:List Addr} (r:Reads h v (.tuple [x,y]) as):∃ l o u w n bs cs,v=.ref l/\h.get? l=some o/\o.cls=.type "tuple" /\ o.data=.seq #[u,w] n/\Reads h u x bs/\Reads h w y cs:=by
 cases r with
 | tuple h1 h2 h3 h4=>
  rename_i a o vs n;generalize e:vs.toList=us at h4;cases h4 with
  | cons r1 r2=>
   cases r2 with
   | cons r2 r3=>
    cases r3;skip
    refine⟨a,o,_,_,n,_,_,rfl,h1,h2,?_,r1,r2⟩
    rw [h3];congr 1
    exact Vw.mp (by rw [e])
section
variable {A:Around} {s:Shared}
theorem ybt {i j:Int} {t u:Tok}:LtAt A s (.int i t) (.int j u) (decide (i<j)):=fun prog w E Q h=>(PyProof.Rows.lt_int h:wpAny (model prog w) A (compareOp .Lt (.int i t) (.int j u)) Q E s)
theorem lt_tup {v u:Value} {x0 x1 y0 y1:PyData} {as bs:List Addr} {e0 r0 e1 r1:Bool} (hv:Reads s.heap v (.tuple [x0,x1]) as) (hw:Reads s.heap u (.tuple [y0,y1]) bs) (hu:A.units<cLine)
  (h0:∀ v u as bs,Reads s.heap v x0 as->Reads s.heap u y0 bs->EqAt A.in1 s v u e0/\LtAt A.in1 s v u r0) (h1:∀ v u as bs,Reads s.heap v x1 as->Reads s.heap u y1 bs->EqAt A.in1 s v u e1/\LtAt A.in1 s v u r1):LtAt A s v u (fstD e0 r0 e1 r1):=by
 intro prog w E Q h;obtain⟨l,⟨cls,dd,data,sl⟩,p0,p1,n,_,_,rfl,gl,hc,hd,ra,rb⟩:=Reads.tup2 hv
 obtain⟨b,⟨cls2,dd2,data2,sl2⟩,q0,q1,n2,_,_,rfl,gb,hc2,hd2,rc,rd⟩:=Reads.tup2 hw
 simp only at hc hd hc2 hd2
 subst hc hd hc2 hd2;exact richCompare_meets_room (op:=.Lt) ⟨_,gl,rfl⟩ ⟨_,gb,rfl⟩ F.slot_tuple_lt F.entry_tuple_lt (F.args_tuple_lt_2 _ _) (two_lt (dd:=dd) (dd2:=dd2) (sl:=sl) (sl2:=sl2) (n:=n) (n2:=n2) e0 r0 e1 r1)
  ⟨gl,gb,(h0 _ _ _ _ ra rc).1,fun _=>(h0 _ _ _ _ ra rc).2,fun _=>⟨(h1 _ _ _ _ rb rd).1,fun _=>(h1 _ _ _ _ rb rd).2⟩,show Value.bool (fstD e0 r0 e1 r1)≠Value.notImplemented/\Q (.bool (fstD e0 r0 e1 r1)) s from⟨(fun x=>nomatch x),h⟩⟩ hu
def lt2 (a c b d:Int):Bool:=fstD (a == b) (decide (a<b)) (c == d) (decide (c<d))
abbrev pd2 (a c:Int):PyData:=.tuple [.int a,.int c]
theorem lt_pd2 {v u:Value} {a c b d:Int} {as bs:List Addr} (hv:Reads s.heap v (pd2 a c) as) (hw:Reads s.heap u (pd2 b d) bs) (hu:A.units<cLine):LtAt A s v u (lt2 a c b d):=by
 refine lt_tup hv hw hu (fun v u as bs r1 r2=>?_) fun v u as bs r1 r2=>?_
 all_goals
  cases r1;cases r2
  exact⟨SeqAt.EqAt.int_int _ _ _ _,ybt⟩
end
def tupO:D->Option (List D)
 | .tup l=>some l
 | _=>none
def intO:D->Option Int
 | .int i=>some i
 | _=>none
def twoO:List D->Option (D×D)
 | [a,b]=>some (a,b)
 | _=>none
def prI (d:D):Option (Int×Int):=(tupO d).bind fun l=>(twoO l).bind fun p=>(intO p.1).bind fun a=>(intO p.2).map fun c=>(a,c)
theorem tupO_s {d:D} {l:List D} (h:tupO d=some l):d=.tup l:=by cases d <;> first | (cases h;rfl) | (cases h;done)
theorem zyi {d:D} {i:Int} (h:intO d=some i):d=.int i:=by cases d <;> first | (cases h;rfl) | (cases h;done)
theorem twoO_s {l:List D} {p:D×D} (h:twoO l=some p):l=[p.1,p.2]:=by
 cases l with
 | nil=>cases h
 | cons a l=>
  cases l with
  | nil=>cases h
  | cons b l=>
   cases l with
   | nil=>cases h;rfl
   | cons _ _=>cases h
theorem prI_s {d:D} {x:Int×Int} (h:prI d=some x):d=.tup [.int x.1,.int x.2]:=by
 obtain⟨l,h1,h⟩:=Za.mp h
 obtain⟨p,h2,h⟩:=Za.mp h
 obtain⟨a,h3,h⟩:=Za.mp h
 obtain⟨c,h4,h⟩:=Zb.mp h
 rw [tupO_s h1,twoO_s h2,zyi h3,zyi h4,<- h]
def nst (d:D):Option (Int×Int):=prI d
def ltN (x y:D):Bool:=match nst x,nst y with
 | some p,some q=>lt2 p.1 p.2 q.1 q.2
 | _,_=>false
theorem ybn {x:D} {p:Int×Int} (h:nst x=some p):toP x=pd2 p.1 p.2/\dOk 49 x=true:=by
 rw [prI_s h];exact⟨by simp [toP,toPs],by simp [dOk,dOkL]⟩
theorem lt_nst {A:Around} {s:Shared} {v u:Value} {x y:D} {p q:Int×Int} {as bs:List Addr} (hx:nst x=some p) (hy:nst y=some q) (hv:Reads s.heap v (toP x) as) (hw:Reads s.heap u (toP y) bs) (hu:A.units+8<cLine):LtAt A s v u (ltN x y):=by
 have e:ltN x y=lt2 p.1 p.2 q.1 q.2:=by unfold ltN;rw [hx,hy]
 rw [e];rw [(ybn hx).1] at hv;rw [(ybn hy).1] at hw;exact lt_pd2 hv hw (by omega)
end DL
namespace DL
open PySem L2 PyProof.Rows
open PySem.SeqAt (EqAt)
def Ext (h h':Heap):Prop:=∀ b o,h.get? b=some o->h'.get? b=some o
section
variable {prog:Program} {w:World} {A:Around} {E:Value->Shared->Prop} {R:Result->Shared->Prop} {h₀:Heap} {I S l:Addr} {vs:List Value}
theorem zlf {h h':Heap} {f:Obj->Obj} (k:Ext h₀ h) (hS:h₀.get? S=none):Ext h₀ (h.update S f):=fun b o e=>
 (Yn _ _ (fun z:S=b=>by rw [z,e] at hS;cases hS)).trans (k b o e)
theorem zlg {h h':Heap} (k:Ext h₀ h) (hI:h₀.get? I=none) (hk:∀ b o,b∉[I]->h.get? b=some o->h'.get? b=some o):Ext h₀ h':=fun b o e=>
 hk b o (fun z=>by rw [Zn.mp z,hI] at e;cases e) (k b o e)
theorem ybr (hh:A.handled=none) (bt:Nat->Nat->Bool) (hl:h₀.IsList l vs.toArray) (hI:h₀.get? I=none) (hS:h₀.get? S=none) (hIS:S≠I)
  (hcmp:∀ i j vi vj (s:Shared),Ext h₀ s.heap->vs[i]? = some vi->vs[j]? = some vj->LtAt A.in1 s vi vj (bt i j)) :
  ∀ (k j:Nat) (s:Shared) (vb:Value) (c:Nat),vs.length-(j+1)=k->j+1<=vs.length->s.heap.IsListIter I l (j+1)->Ext h₀ s.heap->vs[argBest bt j]? = some vb ->
   s.heap.get? S=some (seqObj "list" #[vb,vb] c) ->
   (∀ v h' tk,vs[argBest bt (vs.length-1)]? = some v->Ext h₀ h'->R (.ok (.ret v)) {s with heap:=h',toks:=tk}) ->
   codeAny (model prog w) A (.builtin "min.loop" ⟨[.ref I,.none,.ref S],[]⟩) R s:=by
 have nm:(toString "min" ++ toString ".loop" : String) = "min.loop" := by decide
 have lI:l≠I:=fun z=>by
  obtain⟨o,q,_⟩:=hl
  rw [z,hI] at q;cases q
 have W:=Walks.list (prog:=prog) (w:=w) (A:=A.in1) hh I l lI vs.toArray;have sz:vs.toArray.size=vs.length:=Zq ..;have nS:S∉[I]:=by simpa using hIS
 intro k;induction k with
 | zero=>
  intro j s vb c hk hj it ke hb gS hR;have hn:j+1=vs.length:=by omega
  refine Q4 Ul ?_;rw [W2 Qd _];show wpAny _ A.in1 (seqItems? (.ref S) >>= _) _ _ s;refine Zg (K2 gS rfl ?_);show wpAny _ A.in1 (tryCatch (pyNext (.ref I)) _ >>= _) _ _ s;refine Zg (Jo (W.done s _ _ ⟨by rw [sz,<- hn];exact it,hl.at fun o q=>ke _ _ q⟩ fun h' tk hk'=>?_));show wpAny _ A.in1 (updateSeq S (fun _=>#[]) >>= _) _ _ _;refine Zg (Qj (hk' S _ nS gS) rfl (Zg (Jr (Zy ?_))));exact hR vb _ tk (by rw [<- hn];exact hb) (zlf (h':=h') (zlg ke hI hk') hS)
 | succ k ih=>
  intro j s vb c hk hj it ke hb gS hR;have hlt:j+1<vs.length:=by omega
  refine Q4 Ul ?_;rw [W2 Qd _];show wpAny _ A.in1 (seqItems? (.ref S) >>= _) _ _ s;refine Zg (K2 gS rfl ?_);show wpAny _ A.in1 (tryCatch (pyNext (.ref I)) _ >>= _) _ _ s;refine Zg (Jo (W.item (j+1) s _ _ (by rw [sz];exact hlt) ⟨it,hl.at fun o q=>ke _ _ q⟩ fun v h' tk hP st hk'=>?_));have hv:vs[j+1]? = some v:=by simpa using hP
  have ke':=zlg ke hI hk';have gS':=hk' S _ nS gS;show wpAny _ A.in1 (tryCatch (holding [v,v] (richCompare .Lt v vb >>= _)) _ >>= _) _ _ _;refine Zg (Jo (Y5 (Zg (hcmp (j+1) (argBest bt j) v vb {s with heap:=h',toks:=tk} ke' hv hb prog w _ _ ?_))));refine Zg (Y5 (Qo (Zg (Jr (Zy ?_)))));cases q:bt (j+1) (argBest bt j) with
  | true=>
   simp only [if_true];refine Zg (Qj gS' rfl (Zg (Jr ?_)));rw [nm];refine Zy ⟨Q3 Qd _,ih (j+1) _ v _ (by omega) hlt (st.1.at fun o e=>(Yn _ _ hIS).trans e) (zlf (h':=h') ke' hS) (by simp only [argBest,q,if_true];exact hv) (get?_update_seq gS' fun _=>#[v,v]) fun v' h'' tk''=>hR v' h'' tk''⟩
  | false=>
   simp only [Y3,if_false];refine Zg (Jr ?_);rw [nm];refine Zy ⟨Q3 Qd _,ih (j+1) _ vb c (by omega) hlt st.1 ke' (by simp only [argBest,q,Y3,if_false];exact hb) gS' fun v' h'' tk''=>hR v' h'' tk''⟩
theorem zvi {s:Shared} (hh:A.handled=none) (bt:Nat->Nat->Bool) (hl:h₀.IsList l vs.toArray) (hI:h₀.get? I=none) (hS:h₀.get? S=none) (hIS:S≠I) (hn:0<vs.length)
  (hcmp:∀ i j vi vj (s:Shared),Ext h₀ s.heap->vs[i]? = some vi->vs[j]? = some vj->LtAt A.in1 s vi vj (bt i j)) (it:s.heap.IsListIter I l 0) (ke:Ext h₀ s.heap) (gS:s.heap.get? S=some (seqObj "list" #[] 0))
  (hR:∀ v h' tk,vs[argBest bt (vs.length-1)]? = some v->Ext h₀ h'->R (.ok (.ret v)) {s with heap:=h',toks:=tk}):codeAny (model prog w) A (.builtin "min.loop" ⟨[.ref I,.none,.ref S],[]⟩) R s:=by
 have nm:(toString "min" ++ toString ".loop" : String) = "min.loop" := by decide
 have lI:l≠I:=fun z=>by
  obtain⟨o,q,_⟩:=hl
  rw [z,hI] at q;cases q
 have W:=Walks.list (prog:=prog) (w:=w) (A:=A.in1) hh I l lI vs.toArray;have sz:vs.toArray.size=vs.length:=Zq ..;refine Q4 Ul ?_;rw [W2 Qd _];show wpAny _ A.in1 (seqItems? (.ref S) >>= _) _ _ s;refine Zg (K2 gS rfl ?_);show wpAny _ A.in1 (tryCatch (pyNext (.ref I)) _ >>= _) _ _ s;refine Zg (Jo (W.item 0 s _ _ (by rw [sz];exact hn) ⟨it,hl.at fun o q=>ke _ _ q⟩ fun v h' tk hP st hk'=>?_));have hv:vs[0]? = some v:=by simpa using hP
 have gS':=hk' S _ (by simpa using hIS) gS;show wpAny _ A.in1 (updateSeq S (fun _=>#[v,v]) >>= _) _ _ _;refine Zg (Qj gS' rfl ?_);rw [nm];exact Zy ⟨Q3 Qd _,ybr hh bt hl hI hS hIS hcmp _ 0 _ v _ rfl hn (st.1.at fun o e=>(Yn _ _ hIS).trans e) (zlf (h':=h') (zlg ke hI hk') hS) hv (get?_update_seq gS' fun _=>#[v,v]) fun v' h'' tk''=>hR v' h'' tk''⟩
theorem ybs {s:Shared} {Q:Value->Shared->Prop} (hh:A.handled=none) (bt:Nat->Nat->Bool) (hl:s.heap.IsList l vs.toArray) (hn:0<vs.length)
  (hcmp:∀ i j vi vj (s':Shared),Ext s.heap s'.heap->vs[i]? = some vi->vs[j]? = some vj->LtAt A.in1 s' vi vj (bt i j))
  (hQ:∀ v h' tk,vs[argBest bt (vs.length-1)]? = some v->Ext s.heap h'->Q v {s with heap:=h',toks:=tk}):wpAny (model prog w) A (call (.builtin "min") [.ref l]) Q E s:=by
 have nm:(toString "min" ++ toString ".loop" : String) = "min.loop" := by decide
 refine call_function_tree F.kind_min F.plain_min F.entry_min (F.args_min1 _) ?_;show wpAny _ A.in1 (Builtin.Builtins.bindParams "min" ["key", "default"] 0 ⟨[],[]⟩ >>= _) _ _ s;refine Zg (wpAny_of_eq (show Builtin.Builtins.bindParams "min" ["key", "default"] 0 ⟨[],[]⟩=pure [none,none] from rfl) ?_);refine Zg (Zy ?_);refine Zg (Uc hl ?_);refine Zg (wpAny_newList ?_ (Yi _));rw [nm];have up:∀ o₁ o₂,Ext s.heap ((s.heap.push o₁).push o₂):=fun o₁ o₂ b x e=>Zp _ (Zp _ e)
 have n0:s.heap.get? s.heap.objs.size=none:=Jb (Zj _);have n1:∀ o,s.heap.get? (s.heap.push o).objs.size=none:=fun o=>Jb (by rw [size_push'];exact Ko _)
 have ne:∀ o,(s.heap.push o).objs.size≠s.heap.objs.size:=fun o=>by rw [size_push'];exact Z4 (Qa _)
 exact Zy ⟨Q3 Qd _,zvi hh bt hl n0 (n1 _) (ne _) hn hcmp ⟨_,Zp _ (Yf _ rfl),rfl,rfl⟩ (up _ _) (Yf _ rfl) fun v h' tk a b=>hQ v h' tk a b⟩
end
section
variable {X:Cx}
def zof (l:List D):Nat:=argBest (fun i j=>ltN (l.getD i .non) (l.getD j .non)) (l.length-1)
def minN (l:List D):Option D:=if (l.all fun d=>(nst d).isSome)=true then l[zof l]? else none
theorem ybo {l:List D} (h:(l.all fun d=>(nst d).isSome)=true) {d:D} (hd:d∈l):∃ p,nst d=some p:=Uf.mp (Jw.mp h d hd)
theorem zsi (hc:X.calm=true) (hu:X.A.units+64<cLine):zde X (.builtin "min") (fun vs H Q=>∃ a F xs l r,vs=[.ref a]/\Same F H/\SqL X.K F a xs/\DenL X.K F l xs/\minN l=some r/\∀ v,Den X.K F r v->Q v H):=by
 intro pins s σ H vs us Q I r ⟨a,F,xs,l,d,e,sF,sq,dn,hm,q⟩;subst e;obtain⟨u,e,r1⟩:=zfz r
 subst e;cases r1;obtain⟨its,rv,pl,hz⟩:=I.list (sF.seq sq)
 unfold minN at hm;split at hm
 ·rename_i hall;have len1:xs.length=l.length:=dn.length;have len2:xs.length=its.length:=rv.length;have hlt:zof l<l.length:=by
   rcases Yg (zof l) l.length with h | h
   ·exact h
   ·rw [Yr h] at hm;cases hm
  have rd:∀ i vi,its[i]? = some vi->∃ di as p,l[i]? = some di/\nst di=some p/\Reads s.heap vi (toP di) as:=fun i vi hi=>by
   have hi':i<its.length:=(Zm.mp hi).1;obtain⟨di,hdi⟩:∃ di,l[i]? = some di:=⟨_,Ze (by omega)⟩
   obtain⟨y,hy,qy⟩:=dn.get hdi
   obtain⟨z,hz1,rz⟩:=rv.get hy
   rw [hi] at hz1;cases hz1;obtain⟨p,hp⟩:=ybo hall (Yh hdi)
   obtain⟨as,ra⟩:=Bx I sF 49 di (ybn hp).2 qy rz
   exact⟨di,as,p,hdi,hp,ra⟩
  refine ybs (I.ok.hd hc) (fun i j=>ltN (l.getD i .non) (l.getD j .non)) pl.isList (by omega) (fun i j vi vj s' ke hi hj=>?_) fun v h' tk hv ke=>?_
  ·obtain⟨di,as,p,h1,h2,h3⟩:=rd i vi hi
   obtain⟨dj,bs,q,k1,k2,k3⟩:=rd j vj hj
   rw [Zk,Zk,h1,k1];exact lt_nst h2 k2 (Reads.keeps ke h3) (Reads.keeps ke k3) (by rw [Vn];omega)
  ·rw [<- len2,len1] at hv;obtain⟨y,hy,qy⟩:=dn.get hm
   obtain⟨z,hz1,rz⟩:=rv.get hy
   rw [show its[zof l]? = some v from hv] at hz1;cases hz1;exact⟨y,H,I.kept ke,rz,q y qy⟩
 ·cases hm
theorem zwr {l:List D} {d:D} (hc:X.calm=true) (hu:X.A.units+64<cLine) (h:minN l=some d):zcs X (.builtin "min") [.lst l] (.val d):=⟨_,zsi hc hu,fun H0 Fc H F σ ρ vs Q R q k=>by
 obtain⟨v,e,q⟩:=q.one
 obtain⟨p,xs,e1,sq,r⟩:=q.lst
 rw [e1] at e;exact⟨p,F,xs,l,d,e,R.sub,sq,r,h,fun v hv=>k v H F (Same.refl _) R (RW.v hv)⟩⟩
def idxD (l:List D) (y:D):Option Nat:=if (dOkL 49 l && dOk 50 y)=true then l.findIdx? (fun d=>eqD d y) else none
def idxW:D->D->Option W
 | .lst l,y=>(idxD l y).map fun (k:Nat)=>W.val (.int (k:Int))
 | _,_=>none
theorem zni:∀ {l:List D} {n:Nat} {d:D},dOkL n l=true->d∈l->dOk n d=true
 | d::l,n,e,h,he=>by
  simp only [dOkL,Zl] at h;rcases Zf.mp he with z | z
  ·rw [z];exact h.1
  ·exact zni h.2 z
theorem zvg (hu:X.A.units+64<cLine):MtR X "list.index" (fun x vs H Q=>∃ a F xs l y v k,x=.ref a/\vs=[v]/\Same F H/\SqL X.K F a xs/\DenL X.K F l xs/\Den X.K F y v/\idxD l y=some k/\Q (.int (k:Int)) H):=by
 intro pins s σ H x vs vv us Q I rx r ⟨a,F,xs,l,y,v,k,e,e2,sF,sq,dn,dy,hk,q⟩;subst e;subst e2;obtain⟨u,e,r1⟩:=zfz r
 subst e;cases rx;obtain⟨its,rv,pl,hz⟩:=I.list (sF.seq sq)
 unfold idxD at hk;split at hk
 ·rename_i hd;rw [Zl] at hd;obtain⟨⟨cls,dd,data,sl⟩,ho,hc,n,hdt⟩:=id pl.isList
  simp only at hc hdt
  subst hc hdt;have len1:xs.length=l.length:=dn.length;have len2:xs.length=its.length:=rv.length;obtain⟨bs,ry⟩:=Bx I sF 50 y hd.2 dy r1
  have rd:∀ i vi,its[i]? = some vi->∃ di as,l[i]? = some di/\dOk 49 di=true/\Reads s.heap vi (toP di) as:=fun i vi hi=>by
   have hi':i<its.length:=(Zm.mp hi).1;obtain⟨di,hdi⟩:∃ di,l[i]? = some di:=⟨_,Ze (by omega)⟩
   obtain⟨y,hy,qy⟩:=dn.get hdi
   obtain⟨z,hz1,rz⟩:=rv.get hy
   rw [hi] at hz1;cases hz1;have ok:=zni hd.1 (Yh hdi);obtain⟨as,ra⟩:=Bx I sF 49 di ok qy rz
   exact⟨di,as,hdi,ok,ra⟩
  obtain⟨hkl,h2,h3⟩:=Jj.mp hk
  classical
  let e:Value->Bool:=fun z=>decide (∃ (i:Nat) (di:D),its[i]? = some z/\l[i]? = some di/\eqD di y=true)
  have e_of:∀ i z di,its[i]? = some z->l[i]? = some di->e z=eqD di y:=fun i z di h1 h2=>by
   obtain⟨d1,as1,g1,ok1,rd1⟩:=rd i z h1
   rw [h2] at g1;cases g1;cases q:eqD di y with
   | true=>exact decide_eq_true ⟨i,di,h1,h2,q⟩
   | false=>
    refine decide_eq_false fun⟨j,dj,k1,k2,k3⟩=>?_;obtain⟨d2,as2,g2,ok2,rd2⟩:=rd j z k1
    rw [k2] at g2;cases g2;have:=(reads_det (fun b o e _=>e) rd1 rd2).1
    rw [<- zlh 49 50 di y ok1 hd.2,<- this,zlh 49 50 dj y ok2 hd.2,k3] at q;cases q
  have hkk:k<its.toArray.size:=by simp only [Zq];omega
  have at':∀ m (hm:m<its.toArray.size) (hl:m<l.length),e its.toArray[m]=eqD l[m] y:=fun m hm hl=>
   e_of m _ _ (by simp only [List.getElem_toArray];exact Ze (by simpa using hm)) (Ze hl)
  refine Va Ue ⟨_,ho,rfl⟩ PySem.F.entry_list_index (PySem.F.args_list_index_2 _ _)
   (SeqAt.list_indexAt a its.toArray n dd sl u e k hkk ?_ ?_ ?_) ⟨ho,fun z hz=>?_,?_⟩
  ·have:sizeLine<2^63-1:=by decide
   omega
  ·rw [at' k hkk hkl];exact h2
  ·intro m hm hlt;rw [at' m hm (by omega)];simpa using h3 m hlt
  ·obtain⟨m,hm,ez⟩:=Kk (U2.mpr hz)
   have gz:its[m]? = some z:=by rw [<- ez];exact Ze hm
   obtain⟨di,as,g1,ok1,rd1⟩:=rd m z gz
   rw [e_of m z di gz g1,<- zlh 49 50 di y ok1 hd.2];obtain⟨a1,b1⟩:=zoi 49 di ok1
   obtain⟨a2,b2⟩:=zoi 50 y hd.2
   exact SeqAt.eqAt_reads (toP di) (toP y) X.A.in1 s z u as bs rd1 ry a1 a2 (by rw [Vn];have:=Nat.min_le_left (toP di).depth (toP y).depth;omega)
  ·exact⟨.int (k:Int),H,I.tok _,⟨_,rfl⟩,q⟩
 ·cases hk
theorem DE.idx {ρ:Rho} {x:Str} {p ap cp:Pos} {e:Expr} {l:List D} {y:D} {k:Nat} (hu:X.A.units+64<cLine) (ho:DF X (.Name x p) ρ (.lst l)) (he:DF X e ρ y) (hs:Ga e=true) (hl:(ap.endLine == cp.line)=true) (hk:idxD l y=some k) :
  DE X (.Call (.Attribute (.Name x p) "index" ap) [e] [] cp) ρ (.val (.int (k:Int))):=fun H0 Fc=>
 PE.mono (pe_bm (T := "list") PySem.F.plainAttrs_list Ue PySem.F.type_list_index (zvg hu) (ho H0 Fc) (DA.cons he DA.nil hs H0 Fc) (by rfl) (by rw [Gf hs];rfl) hl (Gf hs) rfl) fun σ H Q ⟨F,R,q⟩=>
  ⟨F,R,fun v H1 F1 s1 R1 q1=>by
   obtain⟨a,xs,e1,sq,r⟩:=q1.lst
   subst e1;refine⟨.inl ⟨rfl,xs,R1.sub.seq sq⟩,F1,R1,fun vs H2 F2 s2 R2 q2=>?_⟩
   obtain⟨u,e2,q3⟩:=q2.one
   obtain⟨a',xs',e3,sq',r'⟩:=(q1.mono s2).lst
   cases e3;exact⟨a,F2,xs',l,y,u,k,rfl,e2,R2.sub,sq',r',q3,hk,q _ H2 F2 (s1.trans s2) R2 RW.int⟩⟩
end
end DL
namespace DL
open PySem L2 PyProof.Rows
def zhq:List D->Option (List Int)
 | []=>some []
 | .int i::l=>(zhq l).map fun ns=>i::ns
 | _=>none
def sumI:List Int->Int
 | []=>0
 | i::l=>i+sumI l
theorem zlz:∀ l:List Int,sumI l=l.sum
 | []=>rfl
 | i::l=>by rw [sumI,zlz l,List.sum_cons]
theorem zhp {K:PySem.W.Frag} {F:Hp}:∀ {l:List D} {ns:List Int} {xs:List V},zhq l=some ns->DenL K F l xs->xs=ns.map V.int
 | [],_,_,h,q=>by cases h;rw [q.inv_nil];rfl
 | d::l,ns,_,h,q=>by
  obtain⟨v,vs,e,q1,q2⟩:=q.inv_cons
  subst e;cases d <;> first | (cases h;done) | skip
  obtain⟨r,hr,e⟩:=Zb.mp h
  subst e;rw [Yk,q1.int,zhp hr q2]
theorem zfh:∀ {ns:List Int} {us:List Value},Vals (ns.map V.int) us->∃ xs:List (Int×Tok),us=xs.map (fun p=>Value.int p.1 p.2)/\xs.map (·.1)=ns
 | [],_,h=>by cases h;exact⟨[],rfl,rfl⟩
 | i::ns,_,h=>by
  cases h with
  | cons h1 h2=>
   obtain⟨t,e⟩:=h1
   obtain⟨xs,e1,e2⟩:=zfh h2
   subst e;subst e1;subst e2;exact⟨(i,t)::xs,rfl,rfl⟩
section
variable {X:Cx}
theorem zmw {xs:List (Int×Tok)}:intItems xs.toArray=(xs.map fun p=>Value.int p.1 p.2).toArray:=by
 unfold intItems;simp
theorem zkr:∀ (xs:List (Int×Tok)),preSum (numAt xs.toArray) xs.length=(xs.map (·.1)).sum:=by
 intro xs;have key:∀ n,n<=xs.length->preSum (numAt xs.toArray) n=((xs.map (·.1)).take n).sum:=by
  intro n;induction n with
  | zero=>intro _;simp [preSum]
  | succ n ih=>
   intro hn;rw [preSum,ih (by omega),List.take_succ,List.sum_append];have:(xs.map (·.1))[n]? = some (numAt xs.toArray n):=by
    have h:n<xs.length:=by omega
    simp [numAt,h]
   rw [this];simp
 rw [key _ (Zj _),Qz (by simp)]
theorem zsh (hc:X.calm=true):zde X (.builtin "sum") (fun vs H Q=>∃ a ns,vs=[.ref a]/\SqL X.K H a (ns.map V.int)/\Q (.int (sumI ns)) H):=by
 intro pins s σ H vs us Q I r ⟨a,ns,e,sq,q⟩;subst e;obtain⟨u,e,r1⟩:=zfz r
 subst e;cases r1;obtain⟨its,rv,pl,hz⟩:=I.list sq
 obtain⟨xs,e1,e2⟩:=zfh rv
 subst e1;have hl:s.heap.IsList a (intItems xs.toArray):=by rw [zmw];exact pl.isList
 refine sum_intListG (I.ok.hd hc) hl fun h' tk t' k=>⟨.int (sumI ns),H,I.kept k,⟨t',?_⟩,q⟩
 rw [Zq,zkr,e2,zlz]
theorem ydn {l:List D} {ns:List Int} (hc:X.calm=true) (h:zhq l=some ns):zcs X (.builtin "sum") [.lst l] (.val (.int (sumI ns))):=⟨_,zsh hc,fun H0 Fc H F σ ρ vs Q R q k=>by
 obtain⟨v,e,q⟩:=q.one
 obtain⟨p,xs,e1,sq,r⟩:=q.lst
 rw [e1] at e;rw [zhp h r] at sq;exact⟨p,ns,e,R.sub.seq sq,k _ H F (Same.refl _) R RW.int⟩⟩
end
section
variable {X:Cx} {elts:List Expr} {x1:Nat} {tp:Pos}
end
end DL
namespace DL
open PySem L2 PyProof.Rows
def maxI:List Int->Option Int
 | []=>none
 | [a]=>some a
 | a::l=>(maxI l).map fun m=>if m<a then a else m
theorem zdz:∀ {l:List Int} {m:Int},maxI l=some m->m∈l/\∀ a∈l,a<=m
 | [],_,h=>by cases h
 | [a],m,h=>by cases h;exact⟨.head _,fun b hb=>by rw [Zn.mp hb];exact Uj _⟩
 | a::b::l,m,h=>by
  unfold maxI at h;obtain⟨k,hk,e⟩:=Zb.mp h
  obtain⟨h1,h2⟩:=zdz hk
  by_cases z:k<a
  ·rw [if_pos z] at e;subst e;refine⟨.head _,fun c hc=>?_⟩
   rcases Zf.mp hc with q | q
   ·omega
   ·have:=h2 c q;omega
  ·rw [if_neg z] at e;subst e;refine⟨.tail _ h1,fun c hc=>?_⟩
   rcases Zf.mp hc with q | q
   ·omega
   ·exact h2 c q
theorem zrb {l:List Int} {m M:Int} (h:maxI l=some m) (h1:M∈l) (h2:∀ a,a∈l->a<=M):M=m:=by
 obtain⟨a,b⟩:=zdz h
 have:=b M h1
 have:=h2 m a
 omega
section
variable {X:Cx}
theorem zsk (hc:X.calm=true):zde X (.builtin "max") (fun vs H Q=>∃ a ns m,vs=[.ref a]/\SqL X.K H a (ns.map V.int)/\maxI ns=some m/\Q (.int m) H):=by
 intro pins s σ H vs us Q I r ⟨a,ns,m,e,sq,hm,q⟩;subst e;obtain⟨u,e,r1⟩:=zfz r
 subst e;cases r1;obtain⟨its,rv,pl,hz⟩:=I.list sq
 obtain⟨xs,e1,e2⟩:=zfh rv
 subst e1;have hl:s.heap.IsList a (intItems xs.toArray):=by rw [zmw];exact pl.isList
 have hne:0<xs.length:=by
  cases xs with
  | nil=>subst e2;cases hm
  | cons x xs=>exact Jt _
 refine max_intList (I.ok.hd hc) hl (by simpa using hne) fun v h' tk hv k=>?_;obtain⟨t,ev⟩:=intItems_at hv
 have hb:=argBest_gt (numAt xs.toArray) (xs.toArray.size-1);subst ev;refine⟨.int m,H,I.kept k,⟨t,?_⟩,q⟩
 congr 1
 have hj:argBest (fun i j=>decide (numAt xs.toArray i > numAt xs.toArray j)) (xs.toArray.size-1)<xs.length:=by
  have:=hb.1
  simp only [Zq] at this |-;omega
 have nat:∀ i (hi:i<xs.length),numAt xs.toArray i=(xs[i]).1:=fun i hi=>by simp [numAt,hi]
 subst e2;refine zrb hm ?_ fun b hb'=>?_
 ·rw [nat _ hj];exact Y4 (Ka hj)
 ·obtain⟨p,hp,e⟩:=Zv.mp hb'
  obtain⟨i,hi,e2⟩:=Kk hp
  subst e2;subst e;have:=hb.2 i (by simp only [Zq];omega)
  rw [nat i hi] at this;exact this
theorem zws {l:List D} {ns:List Int} {m:Int} (hc:X.calm=true) (h:zhq l=some ns) (hm:maxI ns=some m):zcs X (.builtin "max") [.lst l] (.val (.int m)):=⟨_,zsk hc,fun H0 Fc H F σ ρ vs Q R q k=>by
 obtain⟨v,e,q⟩:=q.one
 obtain⟨p,xs,e1,sq,r⟩:=q.lst
 rw [e1] at e;rw [zhp h r] at sq;exact⟨p,ns,m,e,R.sub.seq sq,hm,k _ H F (Same.refl _) R RW.int⟩⟩
end
def Itv (K:PySem.W.Frag) (a:Addr) (xs:List V):It:=
 ⟨fun i H=>SqL K H a xs/\∃ x,xs.reverse[i]? = some x,fun i H x H'=>H'=H/\xs.reverse[i]? = some x,fun i H=>SqL K H a xs/\xs.length<=i⟩
theorem ztr {P:Program} {w:World} {K:PySem.W.Frag} {tg:Expr} (a it:Addr) (xs:List V):Turn P w K tg (Itv K a xs) [it] it (fun i h=>i<=xs.length/\h.IsRevIter it a ((xs.length:Int)-1-(i:Int))) where
 mem:=by simp
 obj:=fun i h st b hb=>by
  have e:b=it:=by simpa using hb
  subst e;obtain⟨_,o,e,c,d⟩:=st
  exact⟨o,e,fun v z=>by rw [d] at z;cases z⟩
 keep:=fun i h h' st k=>⟨st.1,st.2.at fun o e=>k it (by simp) o e⟩
 item:=by
  intro X hP hw hK hc i pins s σ H E I hf st hg;subst hP hw hK;obtain⟨hq,x,hx⟩:=hg
  obtain⟨its,rv,p,hz⟩:=I.list hq
  have hi:i<xs.length:=by have:=(Zm.mp hx).1;rwa [Yz] at this
  rw [Uz hi] at hx;obtain⟨u,hu,ru⟩:=rv.get hx
  obtain⟨f0,f1,f2,f3,f4,f5⟩:=hf it (by simp)
  have ei:(xs.length:Int)-1-(i:Int)=((xs.length-1-i:Nat):Int):=by omega
  have st2:=st.2;rw [ei] at st2;refine wpAny_pyNext_rev_item st2 p.isList (x:=u) (by simpa using hu) fun h' st' sb=>?_;have I1:Inv X pins σ H {s with heap:=h'}:=I.turned (t':=s.toks) (fun b o hb e=>(sb.2 b hb).trans e) f0 f1 f3 f4 f5;obtain⟨o,e,c,d⟩:=id st'
  have e3:((xs.length-1-i:Nat):Int)-1=(xs.length:Int)-1-((i+1:Nat):Int):=by omega
  rw [e3] at st';exact⟨u,rfl,zvx (s:={s with heap:=h'}) e c d (by decide) ⟨x,H,I1,ru,⟨rfl,by rw [Uz hi];exact hx⟩,⟨hi,st'⟩,fun b hb=>(hf b hb).1⟩⟩
 done:=by
  intro X hP hw hK hc i pins s σ H E I hf st hg;subst hP hw hK;obtain⟨hq,hx⟩:=hg
  obtain⟨f0,f1,f2,f3,f4,f5⟩:=hf it (by simp)
  have ei:(xs.length:Int)-1-(i:Int) = -1:=by have:=st.1;omega
  have st2:=st.2;rw [ei] at st2;exact wpAny_pyNext_rev_end (I.ok.hd hc) st2 fun h' eb=>⟨rfl,I.turned (t':=s.toks) (fun b o hb e=>eb b o hb e) f0 f1 f3 f4 f5⟩
 self:=fun _ _ _ _ _ st h=>wpAny_pyIter_revIter st.2 h
theorem zig:bootBuiltins "reversed" = some (.type "reversed"):=by decide +kernel
section
variable {X:Cx} {tg a:Expr} {p pos:Pos} {ρ:Rho}
def iRev (K:PySem.W.Frag) (ta:TA):TI:=fun σ H R=>ta σ H fun vs H1=>∃ a xs,vs=[.ref a]/\SqL K H1 a xs/\R (Itv K a xs) H1
theorem pi_rev {ta:TA} (hg:Gl X "reversed") (hm:X.mg "reversed" = none) (ha:PA X [a] ta) (hs:starEach [a] X.env=[(false,eval a X.env)]):PI X tg (.Call (.Name "reversed" p) [a] [] pos) (iRev X.K ta):=by
 intro pins s σ H R I h;refine Call_ (zcl I hg hm zig (Yu (thn (ha pos pins s σ H _ I h) fun us s1 ⟨vs,H1,I1,r1,q1⟩=>?_) (by rw [hs];rfl) (by rfl)));obtain⟨l,xs,e,hq,q⟩:=q1
 subst e;obtain⟨u,e,r⟩:=zfz r1
 subst e;cases r;obtain⟨its,rv,p1,hz⟩:=I1.list hq
 have hln:its.toArray.size=xs.length:=by simp [rv.length]
 refine call_reversed_list p1.isList ?_;have I2:Inv X pins σ H1 {s1 with heap:=s1.heap.push (revObj l ((its.toArray.size:Int)-1))}:=I1.kept (t':=s1.toks) fun b o e=>Zp _ e
 have hi:(s1.heap.push (revObj l ((its.toArray.size:Int)-1))).IsRevIter s1.heap.objs.size l ((its.toArray.size:Int)-1):=⟨_,Yf _ rfl,rfl,rfl⟩;refine wpAny_pyIter_revIter hi ⟨_,[s1.heap.objs.size],_,_,H1,rfl,I2,ztr l _ xs,⟨Yi _,?_⟩,fun b hb=>?_,q⟩
 ·rw [hln] at hi |-;simpa using hi
 ·have e:b=s1.heap.objs.size:=by simpa using hb
  subst e;exact I1.fpOk (Zj _) (I1.hok.fresh (Zj _))
theorem zox {K:PySem.W.Frag} {F:Hp} {a:Addr} {xs:List V} {l:List D} (sq:SqL K F a xs) (r:DenL K F l xs):Walks K F (Itv K a xs) l.reverse:=fun i H' sH=>⟨fun d hd=>by
 obtain⟨y,h1,h2⟩:=r.rev.get hd
 refine⟨⟨sH.seq sq,y,h1⟩,fun x H'' ⟨eh,ex⟩=>?_⟩
 rw [h1] at ex;cases ex;exact .inl ⟨eh,h2⟩,fun hle=>⟨sH.seq sq,by
 rw [Yz] at hle;rw [r.length];exact hle⟩⟩
theorem DIe.rev {l:List D} (hg:Gl X "reversed") (hm:X.mg "reversed" = none) (ha:DA X [a] ρ [.lst l]) (hs:Ga a=true):DIe X tg (.Call (.Name "reversed" p) [a] [] pos) ρ l.reverse:=fun H0 Fc=>
 PI.mono (pi_rev hg hm (ha H0 Fc) (by rw [Gf hs];rfl)) fun σ H R ⟨F,Re,k⟩=>⟨F,Re,fun vs H2 F2 s2 R2 q=>by
  obtain⟨v,e,q⟩:=q.one
  obtain⟨a,xs,e1,sq,r⟩:=q.lst
  subst e1;exact⟨a,xs,e,R2.sub.seq sq,k _ H2 F2 s2 R2 (zox sq r)⟩⟩
end
end DL
namespace DL
open PySem L2 PyProof.Rows
inductive Op where
 | add | sub | mul | fdiv | mod | pow
inductive Cm where
 | lt | le | gt | ge | eq | ne | isN | notN | isin | notin
inductive Ty where
 | int | bool | tuple | list
inductive Bi where
 | len | abs | min | max | sum
inductive Fm where
 | ss | rev | lset | tupl | zip
inductive Tg where
 | name (i:Nat) | tup (l:List Nat)
mutual
inductive E where
 | var (i:Nat) | int (i:Int) | bl (b:Bool) | non
 | bin (o:Op) (a b:E) | neg (a:E) | cmp (c:Cm) (a b:E)
 | and (a b:E) | or (a b:E) | not (a:E) | ife (c a b:E)
 | tup (l:Es) | lst (l:Es) | ix (a b:E) | sl (a:E) (lo hi:EO)
 | call (f:Nat) (l:Es) | bi (f:Bi) (l:Es) | isi (a:E) (t:Ty) | isx (a:E) (ys:List Str)
 | idx (a b:E) | fm (f:Fm) (l:Es) | lcp (a:E) | comp (elt:E) (t:Tg) (it:It') (nt:Nat) (fr:List Nat) (c:EO)
inductive Es where
 | nil | cons (e:E) (l:Es)
inductive EO where
 | non | som (e:E)
inductive It' where
 | seq (e:E) | seqV (i:Nat) | range1 (a:E) | range2 (a b:E) | enum (e:E) | rev (e:E)
end
mutual
inductive S where
 | asg (i:Nat) (e:E) | unp (l:List Nat) (e:E) | par (i j:Nat) (a b:E)
 | ret (e:E) | retV (i:Nat) | iff (c:E) (a b:Ss) | whl (c:E) (b:Ss) | frr (t:Tg) (it:It') (b:Ss) | tryC (f g:Nat) (l:Es) (i j:Nat) | app (i:Nat) (e:E) | pop (i:Nat) | clr (i:Nat) | seti (i:Nat) (k e:E) | never
inductive Ss where
 | nil | cons (s:S) (l:Ss)
end
def Gp (a b:Int):Bool:=decide (a.natAbs<2^16000) && decide (b.natAbs<2^16000)
def zaf (b:Int):Bool:=decide (b≠0) && decide (b.natAbs<2^9000)
def zks (a b:Int):Bool:=decide (0<=b) && decide (b<=1000) && decide (a.natAbs<2^64)
def addW:D->D->Option W
 | .int a,.int b=>some (.val (.int (a+b)))
 | .lst a,.lst b=>if a.length+b.length<=sizeLine then some (.new (a++b)) else none
 | _,_=>none
def arW (f:Int->Int->Option W):D->D->Option W
 | .int a,.int b=>f a b
 | _,_=>none
def opW:Op->D->D->Option W
 | .add,x,y=>addW x y
 | .sub,x,y=>arW (fun a b=>some (.val (.int (a-b)))) x y
 | .mul,x,y=>arW (fun a b=>if Gp a b=true then some (.val (.int (a*b))) else none) x y
 | .fdiv,x,y=>arW (fun a b=>if zaf b=true then some (.val (.int (a.fdiv b))) else none) x y
 | .mod,x,y=>arW (fun a b=>if b=0 then none else some (.val (.int (a.fmod b)))) x y
 | .pow,x,y=>arW (fun a b=>if zks a b=true then some (.val (.int (a^b.toNat))) else none) x y
def ordO (f:Int->Int->Bool):D->D->Option Bool
 | .int a,.int b=>some (f a b)
 | _,_=>none
def eqO:D->D->Option Bool
 | .int a,.int b=>some (decide (a=b))
 | .bl a,.bl b=>some (a == b)
 | .tup a,.tup b=>if (dOkL 49 a && dOkL 49 b)=true then some (eqL a b) else none
 | .lst a,.lst b=>if (dOkL 49 a && dOkL 49 b)=true then some (eqL a b) else none
 | _,_=>none
def inO (x:D):D->Option Bool
 | .lst l=>if (dOk 50 x && dOkL 49 l)=true then some (l.any fun y=>eqD y x) else none
 | _=>none
def nonO (x:D):D->Option Bool
 | .non=>some (zdq x)
 | _=>none
def cmpD:Cm->D->D->Option Bool
 | .lt,x,y=>ordO (fun a b=>decide (a<b)) x y
 | .le,x,y=>ordO (fun a b=>decide (a<=b)) x y
 | .gt,x,y=>ordO (fun a b=>decide (b<a)) x y
 | .ge,x,y=>ordO (fun a b=>decide (b<=a)) x y
 | .eq,x,y=>eqO x y
 | .ne,x,y=>(eqO x y).map not
 | .isin,x,y=>inO x y
 | .notin,x,y=>(inO x y).map not
 | .isN,x,y=>nonO x y
 | .notN,x,y=>(nonO x y).map not
def isTy:Ty->D->Bool
 | .int,.int _=>true
 | .int,.bl _=>true
 | .bool,.bl _=>true
 | .tuple,.tup _=>true
 | .list,.lst _=>true
 | _,_=>false
def zoj (t:Ty):D->Option Bool
 | .exc _=>none
 | d=>some (isTy t d)
def lenW:List D->Option W
 | [.lst l]=>some (.val (.int l.length))
 | [.tup l]=>some (.val (.int l.length))
 | _=>none
def absW:List D->Option W
 | [.int i]=>some (.val (.int (if i<0 then -i else i)))
 | _=>none
def minW:List D->Option W
 | [.int i,.int j]=>some (.val (.int (if j<i then j else i)))
 | [.lst l]=>(minN l).map W.val
 | _=>none
def maxW:List D->Option W
 | [.int i,.int j]=>some (.val (.int (if i<j then j else i)))
 | [.lst l]=>((zhq l).bind maxI).map fun m=>.val (.int m)
 | _=>none
def sumW:List D->Option W
 | [.lst l]=>(zhq l).map fun ns=>.val (.int (sumI ns))
 | _=>none
def biW:Bi->List D->Option W
 | .len,ds=>lenW ds
 | .abs,ds=>absW ds
 | .min,ds=>minW ds
 | .max,ds=>maxW ds
 | .sum,ds=>sumW ds
def ixD:D->D->Option D
 | .tup l,.int i=>atI l i
 | .lst l,.int i=>atI l i
 | _,_=>none
def slD:D->Option Int->Option Int->Option W
 | .lst l,i,j=>some (.new (cutD l i j))
 | _,_,_=>none
def zav:D->Option Bool
 | .bl b=>some b
 | _=>none
def dInt:D->Option Int
 | .int i=>some i
 | _=>none
def lcpW:D->Option W
 | .lst l=>some (.new l)
 | .tup l=>some (.new l)
 | _=>none
def fmW:Fm->List D->Option W
 | .tupl,[.lst l]=>some (.val (.tup l))
 | .zip,[.lst a,.lst b]=>if a.length=b.length then some (.new (zipD a b)) else none
 | _,_=>none
def tgOk (n:Nat):Tg->Bool
 | .name i=>decide (i<n)
 | .tup l=>l.all fun i=>decide (i<n)
def setE (ρ:Rho) (i:Nat) (d:D):Option Rho:=if i<ρ.length then some (ρ.set i (some d)) else none
def zac:List Nat->List D->Rho->Option Rho
 | [],[],ρ=>some ρ
 | i::is,d::ds,ρ=>(setE ρ i d).bind (zac is ds)
 | _,_,_=>none
def By:Tg->D->Rho->Option Rho
 | .name i,d,ρ=>setE ρ i d
 | .tup is,.tup ds,ρ=>zac is ds ρ
 | _,_,_=>none
def zfk (l:List D):List D:=l.zipIdx.map fun p=>D.tup [.int (p.2:Int),p.1]
def seqD:D->Option (List D)
 | .lst l=>some l
 | .tup l=>some l
 | _=>none
def lstD:D->Option (List D)
 | .lst l=>some l
 | _=>none
def varD (ρ:Rho) (i:Nat):Option D:=match ρ[i]? with
 | some (some d)=>some d
 | _=>none
section
variable (Γ:Nat->List D->Option W)
mutual
def ev:E->Rho->Option W
 | .var i,ρ=>(varD ρ i).map W.val
 | .int i,_=>some (.val (.int i))
 | .bl b,_=>some (.val (.bl b))
 | .non,_=>some (.val .non)
 | .bin o a b,ρ=>((ev a ρ).map W.d).bind fun x=>((ev b ρ).map W.d).bind fun y=>opW o x y
 | .neg a,ρ=>(((ev a ρ).map W.d).bind dInt).map fun i=>.val (.int (-i))
 | .cmp c a b,ρ=>((ev a ρ).map W.d).bind fun x=>((ev b ρ).map W.d).bind fun y=>(cmpD c x y).map fun k=>.val (.bl k)
 | .and a b,ρ=>(((ev a ρ).map W.d).bind zav).bind fun k=>if k=true then ev b ρ else some (.val (.bl false))
 | .or a b,ρ=>(((ev a ρ).map W.d).bind zav).bind fun k=>if k=true then some (.val (.bl true)) else ev b ρ
 | .not a,ρ=>(((ev a ρ).map W.d).bind zav).map fun k=>.val (.bl (!k))
 | .ife c a b,ρ=>(((ev c ρ).map W.d).bind zav).bind fun k=>if k=true then ev a ρ else ev b ρ
 | .tup l,ρ=>(evs l ρ).bind fun ds=>if ds.length<=sizeLine then some (.val (.tup ds)) else none
 | .lst l,ρ=>(evs l ρ).bind fun ds=>if ds.length<=sizeLine then some (.new ds) else none
 | .ix a b,ρ=>((ev a ρ).map W.d).bind fun x=>((ev b ρ).map W.d).bind fun y=>(ixD x y).map W.val
 | .sl a lo hi,ρ=>((ev a ρ).map W.d).bind fun x=>(evo lo ρ).bind fun i=>(evo hi ρ).bind fun j=>slD x i j
 | .call f l,ρ=>(evs l ρ).bind fun ds=>Γ f ds
 | .bi f l,ρ=>(evs l ρ).bind fun ds=>biW f ds
 | .isi a t,ρ=>((ev a ρ).map W.d).bind fun d=>(zoj t d).map fun k=>.val (.bl k)
 | .isx a ys,ρ=>((ev a ρ).map W.d).bind fun d=>(isX ys d).map fun k=>.val (.bl k)
 | .idx a b,ρ=>((ev a ρ).map W.d).bind fun x=>((ev b ρ).map W.d).bind fun y=>idxW x y
 | .fm f l,ρ=>(evs l ρ).bind fun ds=>fmW f ds
 | .lcp a,ρ=>((ev a ρ).map W.d).bind lcpW
 | .comp elt t it nt fr c,ρ=>(evW it ρ).bind fun items=>if items.length<=sizeLine/\tgOk nt t=true then
   (zaw (fun d=>(By t d (blkR nt fr ρ)).bind fun ρd=>(evc c ρd).bind fun k=>if k=true then ((ev elt ρd).map W.d).map some else some none) items).map W.new else none
def evs:Es->Rho->Option (List D)
 | .nil,_=>some []
 | .cons e l,ρ=>((ev e ρ).map W.d).bind fun d=>(evs l ρ).map fun ds=>d::ds
def evo:EO->Rho->Option (Option Int)
 | .non,_=>some none
 | .som e,ρ=>(((ev e ρ).map W.d).bind dInt).map some
def evc:EO->Rho->Option Bool
 | .non,_=>some true
 | .som e,ρ=>((ev e ρ).map W.d).bind zav
def evW:It'->Rho->Option (List D)
 | .seq e,ρ=>((ev e ρ).map W.d).bind seqD
 | .seqV i,ρ=>(varD ρ i).bind seqD
 | .range1 a,ρ=>(((ev a ρ).map W.d).bind dInt).bind fun n=>if -(2^62)<=n/\n<2^62 then some (Gx 0 n.toNat) else none
 | .range2 a b,ρ=>(((ev a ρ).map W.d).bind dInt).bind fun m=>(((ev b ρ).map W.d).bind dInt).bind fun n=>
   if -(2^62)<=m/\m<2^62 /\ -(2^62)<=n/\n<2^62 then some (Gx m (n-m).toNat) else none
 | .enum e,ρ=>(((ev e ρ).map W.d).bind lstD).map zfk
 | .rev e,ρ=>(((ev e ρ).map W.d).bind lstD).map List.reverse
end
def evB (e:E) (ρ:RhoS):Option Bool:=((ev Γ e (view ρ)).map W.d).bind zav
def setR (ρ:RhoS) (i:Nat) (b:B):Option RhoS:=if i<ρ.length then some (ρ.set i (some b)) else none
def zca:List Nat->List D->RhoS->Option RhoS
 | [],[],ρ=>some ρ
 | i::is,d::ds,ρ=>(setR ρ i (.sh d)).bind (zca is ds)
 | _,_,_=>none
def Be:Tg->D->RhoS->Option RhoS
 | .name i,d,ρ=>setR ρ i (.sh d)
 | .tup is,.tup ds,ρ=>zca is ds ρ
 | _,_,_=>none
def seqB (ρ:RhoS):Option (Option B)->Option (List D×RhoS)
 | some (some (.sh (.lst l)))=>some (l,ρ)
 | some (some (.sh (.tup l)))=>some (l,ρ)
 | some (some (.ow l))=>some (l,frz ρ)
 | _=>none
def evI:It'->RhoS->Option (List D×RhoS)
 | .seqV i,ρ=>seqB ρ ρ[i]?
 | .seq e,ρ=>(ev Γ e (view ρ)).bind fun w=>match w.d with
  | .lst l=>some (l,after w ρ)
  | .tup l=>some (l,after w ρ)
  | _=>none
 | .range1 a,ρ=>(((ev Γ a (view ρ)).map W.d).bind dInt).bind fun n=>if -(2^62)<=n/\n<2^62 then some (Gx 0 n.toNat,ρ) else none
 | .range2 a b,ρ=>(((ev Γ a (view ρ)).map W.d).bind dInt).bind fun m=>(((ev Γ b (view ρ)).map W.d).bind dInt).bind fun n=>
   if -(2^62)<=m/\m<2^62 /\ -(2^62)<=n/\n<2^62 then some (Gx m (n-m).toNat,ρ) else none
 | .enum e,ρ=>(ev Γ e (view ρ)).bind fun w=>match w.d with
  | .lst l=>some (zfk l,frz ρ)
  | _=>none
 | .rev _,_=>none
open Classical in
def zeg (c:RhoS->Option Bool) (b:RhoS->Option Out) (ρ:RhoS):Option Out:=
 if h:∃ n o,G3 c b n ρ=some o then G3 c b h.choose ρ else none
theorem zbu {c:RhoS->Option Bool} {b:RhoS->Option Out}:∀ {n m:Nat} {ρ:RhoS} {o:Out},G3 c b n ρ=some o->n<=m->G3 c b m ρ=some o
 | 0,_,_,_,h,_=>by cases h
 | n+1,0,_,_,_,h=>by omega
 | n+1,m+1,ρ,o,h,hm=>by
  unfold G3 at h |-;cases e:c ρ with
  | none=>rw [e] at h;cases h
  | some k=>
   simp only [e] at h |-;cases k with
   | false=>exact h
   | true=>
    cases e2:b ρ with
    | none=>simp only [e2] at h;cases h
    | some o2=>
     simp only [e2] at h |-;cases o2 with
     | rt w=>exact h
     | nx ρ'=>exact zbu h (by omega)
theorem zcd {c:RhoS->Option Bool} {b:RhoS->Option Out} {n:Nat} {ρ:RhoS} {o:Out} (h:G3 c b n ρ=some o):zeg c b ρ=some o:=by
 have hx:∃ n o,G3 c b n ρ=some o:=⟨n,o,h⟩;unfold zeg;rw [dif_pos hx];obtain⟨o',h'⟩:=hx.choose_spec
 rw [h'];have a:=zbu h (Nat.le_max_left n hx.choose);have b:=zbu h' (Nat.le_max_right n hx.choose);rw [a] at b;exact b.symm
theorem zgo {c:RhoS->Option Bool} {b:RhoS->Option Out} {ρ:RhoS} {o:Out} (h:zeg c b ρ=some o):∃ n,G3 c b n ρ=some o:=by
 unfold zeg at h;by_cases hx:∃ n o,G3 c b n ρ=some o
 ·rw [dif_pos hx] at h;exact⟨_,h⟩
 ·rw [dif_neg hx] at h;cases h
mutual
def ex:S->RhoS->Option Out
 | .asg i e,ρ=>(ev Γ e (view ρ)).bind fun w=>(setR (after w ρ) i w.b).map Out.nx
 | .unp is e,ρ=>(ev Γ e (view ρ)).bind fun w=>(Be (.tup is) w.d (after w ρ)).map Out.nx
 | .par i j a b,ρ=>((ev Γ a (view ρ)).map W.d).bind fun x=>((ev Γ b (view ρ)).map W.d).bind fun y=>
   if lf x=true/\lf y=true/\i≠j/\i<ρ.length/\j<ρ.length then some (.nx ((ρ.set i (some (.sh x))).set j (some (.sh y)))) else none
 | .ret e,ρ=>(ev Γ e (view ρ)).map Out.rt
 | .retV i,ρ=>match ρ[i]? with
  | some (some (.ow l))=>some (.rt (.new l))
  | some (some (.sh d))=>some (.rt (.val d))
  | _=>none
 | .iff c a b,ρ=>(evB Γ c ρ).bind fun k=>if k=true then exs a ρ else exs b ρ
 | .whl c b,ρ=>zeg (evB Γ c) (exs b) ρ
 | .frr t it b,ρ=>(evI Γ it ρ).bind fun p=>forN (Be t) (exs b) p.1 p.2
 | .tryC f g l i j,ρ=>(evs Γ l (view ρ)).bind fun ds=>match Γ g ds with
  | some (.val (.exc z))=>if z∈zef/\i≠j/\i<ρ.length then some (.nx (((frz ρ).set j none).set i (some (.sh (.exc z))))) else none
  | _=>(Γ f ds).map fun _=>.nx (frz ρ)
 | .app i e,ρ=>(ev Γ e (view ρ)).bind fun w=>match ρ[i]?,w with
  | some (some (.ow l)),.val d=>if lf d=true/\l.length<sizeLine then some (.nx (ρ.set i (some (.ow (l++[d]))))) else none
  | _,_=>none
 | .pop i,ρ=>match ρ[i]? with
  | some (some (.ow l))=>if l=[] then none else some (.nx (ρ.set i (some (.ow l.dropLast))))
  | _=>none
 | .clr i,ρ=>match ρ[i]? with
  | some (some (.ow _))=>some (.nx (ρ.set i (some (.ow []))))
  | _=>none
 | .seti i k e,ρ=>(ev Γ e (view ρ)).bind fun w=>(((ev Γ k (view ρ)).map W.d).bind dInt).bind fun j=>match ρ[i]?,w with
  | some (some (.ow l)),.val d=>if lf d=true then (ixN l.length j).map fun n=>.nx (ρ.set i (some (.ow (l.set n d)))) else none
  | _,_=>none
 | .never,_=>none
def exs:Ss->RhoS->Option Out
 | .nil,ρ=>some (.nx ρ)
 | .cons s l,ρ=>(ex s ρ).bind fun o=>match o with
  | .nx ρ'=>exs l ρ'
  | .rt w=>some (.rt w)
end
def run (b:Ss) (n:Nat) (ds:List D):Option W:=(exs Γ b (ds.map (fun d=>some (.sh d))++List.replicate (n-ds.length) none)).bind fun o=>match o with
 | .rt w=>some w
 | .nx _=>some (.val .non)
end
end DL
namespace DL
open PySem L2 PyProof.Rows
section
variable {X:Cx} {e a b c:Expr} {es:List Expr} {ρ:RhoS} {pos:Pos}
theorem zgn {α:Type} (l:List α) (i:Nat):l.zipIdx[i]? = (l[i]?).map fun x=>(x,i):=by simp
theorem DI.enum {elts:List Expr} {x1:Nat} {tp p:Pos} {l:List D} (hg:Gl X "enumerate") (hm:X.mg "enumerate" = none) (ha:DA X [a] (view ρ) [.lst l]) (hs:Ga a=true) :
  DI X (.Tuple elts x1 tp) (.Call (.Name "enumerate" p) [a] [] pos) ρ (zfk l) (frz ρ):=fun H0 Fc=>
 PI.mono (zqk hg hm (ha H0 Fc) (Gf hs)) fun σ H R ⟨F,S,k⟩=>by
  obtain⟨s0,Re⟩:=S.borrow
  refine⟨_,Re,fun vs H2 F2 s2 R2 q=>?_⟩
  obtain⟨s3,S3⟩:=S.freeze s2 R2
  obtain⟨v,e,q⟩:=q.one
  obtain⟨a,xs,e1,sq,r⟩:=q.lst
  subst e1;refine⟨a,e,⟨xs,R2.sub.seq sq⟩,k _ H2 F2 s3 S3 fun i H' sH=>⟨fun d hd=>?_,fun hle=>⟨xs,sH.seq sq,?_⟩⟩⟩
  ·unfold zfk at hd;rw [Zi,zgn] at hd;cases hl:l[i]? with
   | none=>rw [hl] at hd;cases hd
   | some d'=>
    rw [hl] at hd;cases hd;obtain⟨y,h1,h2⟩:=r.get hl
    refine⟨⟨xs,y,sH.seq sq,h1⟩,fun x H'' ⟨p,z,hp,ex,eh,hz⟩=>?_⟩
    have:=hz xs (sH.seq sq)
    rw [h1] at this;cases this;exact .inr ⟨p,_,[.int (i:Int),d'],hp,eh,ex,rfl,DenL.cons Den.int_mk (DenL.cons h2 DenL.nil)⟩
  ·unfold zfk at hle;rw [Zc,Vj] at hle;rw [r.length];exact hle
def Ty.nm:Ty->String
 | .int => "int" | .bool => "bool" | .tuple => "tuple" | .list => "list"
def tyTy:Ty->Ty->Bool
 | .int,.int=>true
 | .int,.bool=>true
 | .bool,.bool=>true
 | .tuple,.tuple=>true
 | .list,.list=>true
 | _,_=>false
theorem zho (K:PySem.W.Frag):∀ (t:Ty) (u:Ty),PySem.W.kitOne K (.type u.nm) (.type t.nm)=some (tyTy t u):=by
 intro t u;cases t <;> cases u <;> kernel_rfl
theorem yce (K:PySem.W.Frag):∀ (t:Ty),PySem.W.kitOne K (.type "NoneType") (.type t.nm)=some false:=by
 intro t;cases t <;> kernel_rfl
theorem isi_ok {pins:List (Addr×Obj)} {σ:L2.St} {F H:Hp} {s:Shared} {A:Around} {E:Value->Shared->Prop} {Q:Value->Shared->Prop} {d:D} {v:V} {u:Value} {t:Ty} (I:Inv X pins σ H s) (sF:Same F H) (h:Den X.K F d v) (r:RelV v u) (hd:zoj t d=some (isTy t d))
  (q:∀ tk,Q (.bool (isTy t d)) {s with toks:=tk}):wpAny (model X.prog X.w) A (call (.builtin "isinstance") [u,.type t.nm]) Q E s:=by
 cases d with
 | non=>
  rw [h.non] at r;cases (show u=Value.none from r)
  exact Ke PySem.W.kitx_none I.kIn True.intro (by rw [yce X.K t]) (fun z=>nomatch z) (by cases t <;> exact q)
 | bl b=>
  rw [h.bl] at r;cases (show u=Value.bool b from r)
  exact Ke PySem.W.kitx_bool I.kIn True.intro (zho X.K t .bool) (fun z=>nomatch z) (by cases t <;> exact q)
 | int i=>
  rw [h.int] at r;obtain⟨t',e⟩:=(show ∃ t,u=Value.int i t from r)
  cases e;exact Ke PySem.W.kitx_int I.kIn True.intro (zho X.K t .int) (fun z=>nomatch z) (by cases t <;> exact q)
 | tup l=>
  obtain⟨a,xs,e,sq,_⟩:=h.tup
  rw [e] at r;cases (show u=Value.ref a from r)
  obtain⟨its,_,⟨o,h1,h2,_⟩,_⟩:=I.tuple (Same.tup sF sq)
  exact Ke PySem.W.kitx_tuple I.kIn ⟨o,h1,h2⟩ (zho X.K t .tuple) (fun z=>nomatch z) (by cases t <;> exact q)
 | lst l=>
  obtain⟨a,xs,e,sq,_⟩:=h.lst
  rw [e] at r;cases (show u=Value.ref a from r)
  obtain⟨its,_,⟨o,n,h1,h2,_⟩,_⟩:=I.list (sF.seq sq)
  exact Ke PySem.W.kitx_list I.kIn ⟨o,h1,h2⟩ (zho X.K t .list) (fun z=>nomatch z) (by cases t <;> exact q)
 | exc x=>cases hd
theorem zfp:bootBuiltins "isinstance" = some (.builtin "isinstance"):=by decide +kernel
theorem ydl (t:Ty):bootBuiltins (Str.ofString t.nm)=some (.type t.nm):=by cases t <;> decide +kernel
theorem zwm (t:Ty) (d:D) (hd:zoj t d=some (isTy t d)):zde X (.builtin "isinstance") (fun vs H Q=>∃ F v,vs=[v,.ty t.nm]/\Same F H/\Den X.K F d v/\Q (.bl (isTy t d)) H):=by
 intro pins s σ H xs us Q I r ⟨F,v,e,sF,h,q⟩;subst e;obtain⟨u,u',e,r1,r2⟩:=zzi r
 subst e;cases (show u'=Value.type t.nm from r2)
 exact isi_ok I sF h r1 hd fun tk=>⟨.bl _,H,I.tok tk,rfl,q⟩
theorem DE.isi {t:Ty} {d:D} {x:Str} {p p2:Pos} {ρ:Rho} (hd:zoj t d=some (isTy t d)) (ha:DF X a ρ d) (hs:Ga a=true) (hg:Gl X "isinstance") (hm:X.mg "isinstance" = none) (hx:x=Str.ofString t.nm) (hgt:Gl X x) (hmt:X.mg x=none) :
  DE X (.Call (.Name "isinstance" p) [a,.Name x p2] [] pos) ρ (.val (.bl (isTy t d))):=fun H0 Fc=>by
 subst hx;have pt:PE X (.Name (Str.ofString t.nm) p2) (tC (.ty t.nm)):=ybe hgt hmt (ydl t) rfl (by cases t <;> decide) (by cases t <;> decide);refine PE.mono (zmk (zwm t d hd) hg hm zfp (zhj (ha H0 Fc) (zhj pt zqo) (Gf hs)) (by decide) (by decide) (Gf hs) rfl) fun σ H Q ⟨F,R,k⟩=>?_;exact⟨F,R,fun v H1 F1 s1 R1 q1=>⟨F1,v,rfl,R1.sub,q1,k _ H1 F1 s1 R1 RW.bl⟩⟩
end
end DL
namespace DL
open PySem L2 PyProof.Rows
section
variable {X:Cx} {e a b c t tg:Expr} {es ts:List Expr} {ρ ρ' ρ2:Rho} {pos:Pos} {d:D} {ds:List D} {w:W}
theorem zns {K:PySem.W.Frag} {F:Hp} {a:Addr} {xs:List V} {l:List D} (sq:SqL K F a xs) (r:DenL K F l xs):Walks K F (Itl K a) l:=fun i H' sH=>⟨fun d hd=>by
 obtain⟨y,h1,h2⟩:=r.get hd
 refine⟨⟨xs,y,sH.seq sq,h1⟩,fun x H'' ⟨ey,yy⟩=>?_⟩
 have:=yy xs (sH.seq sq)
 rw [h1] at this;cases this;exact .inl ⟨ey,h2⟩,fun hle=>⟨xs,sH.seq sq,by rw [r.length];exact hle⟩⟩
theorem zow {K:PySem.W.Frag} {F:Hp} {a:Addr} {xs:List V} {l:List D} (sq:SqT K F a xs) (r:DenL K F l xs):Walks K F (Itt K a) l:=fun i H' sH=>⟨fun d hd=>by
 obtain⟨y,h1,h2⟩:=r.get hd
 refine⟨⟨xs,y,Same.tup sH sq,h1⟩,fun x H'' ⟨ey,yy⟩=>?_⟩
 have:=yy xs (Same.tup sH sq)
 rw [h1] at this;cases this;exact .inl ⟨ey,h2⟩,fun hle=>⟨xs,Same.tup sH sq,by rw [r.length];exact hle⟩⟩
theorem znt {K:PySem.W.Frag} {F:Hp} {a:Addr} {xs:List V} {l:List D} (sq:SqL K F a xs) (r:DenL K F l xs):Walks K F (Ite K a) (zfk l):=fun i H' sH=>⟨fun d hd=>by
 unfold zfk at hd;rw [Zi,zgn] at hd;cases hl:l[i]? with
 | none=>rw [hl] at hd;cases hd
 | some d'=>
  rw [hl] at hd;cases hd;obtain⟨y,h1,h2⟩:=r.get hl
  refine⟨⟨xs,y,sH.seq sq,h1⟩,fun x H'' ⟨p,z,hp,ex,eh,hz⟩=>?_⟩
  have:=hz xs (sH.seq sq)
  rw [h1] at this;cases this;exact .inr ⟨p,_,[.int (i:Int),d'],hp,eh,ex,rfl,DenL.cons Den.int_mk (DenL.cons h2 DenL.nil)⟩,fun hle=>⟨xs,sH.seq sq,by
 unfold zfk at hle;rw [Zc,Vj] at hle;rw [r.length];exact hle⟩⟩
theorem DIe.list {l:List D} (he:DF X e ρ (.lst l)):DIe X tg e ρ l:=fun H0 Fc=>PI.mono (zkt (he H0 Fc)) fun σ H R ⟨F,Re,k⟩=>⟨F,Re,fun v H2 F2 s2 R2 q=>by
 obtain⟨a,xs,e1,sq,r⟩:=q.lst
 exact⟨a,e1,⟨xs,R2.sub.seq sq⟩,k _ H2 F2 s2 R2 (zns sq r)⟩⟩
theorem DIe.tup {l:List D} (he:DF X e ρ (.tup l)):DIe X tg e ρ l:=fun H0 Fc=>PI.mono (zqj (he H0 Fc)) fun σ H R ⟨F,Re,k⟩=>⟨F,Re,fun v H2 F2 s2 R2 q=>by
 obtain⟨a,xs,e1,sq,r⟩:=q.tup
 exact⟨a,e1,⟨xs,Same.tup R2.sub sq⟩,k _ H2 F2 s2 R2 (zow sq r)⟩⟩
theorem DIe.range1 {p:Pos} {n:Int} (hg:Gl X "range") (hm:X.mg "range" = none) (ha:DA X [a] ρ [.int n]) (hs:Ga a=true) (h1 : -(2^62)<=n) (h2:n<2^62):DIe X tg (.Call (.Name "range" p) [a] [] pos) ρ (Gx 0 n.toNat):=fun H0 Fc=>
 PI.mono (zje hg hm (ha H0 Fc) (Gf hs)) fun σ H R ⟨F,Re,k⟩=>⟨F,Re,fun vs H2 F2 s2 R2 q=>by
  obtain⟨v,e,q⟩:=q.one
  rw [q.int] at e;exact⟨n,e,h1,h2,k _ H2 F2 s2 R2 B7⟩⟩
theorem DIe.range2 {p:Pos} {m n:Int} (hg:Gl X "range") (hm:X.mg "range" = none) (ha:DA X [a,b] ρ [.int m,.int n]) (hs:Ga a=true) (hs2:Ga b=true) (h : -(2^62)<=m/\m<2^62 /\ -(2^62)<=n/\n<2^62) :
  DIe X tg (.Call (.Name "range" p) [a,b] [] pos) ρ (Gx m (n-m).toNat):=fun H0 Fc=>
 PI.mono (zjd hg hm (ha H0 Fc) (by rw [Gf hs,Gf hs2];rfl) (by rw [Gf hs2];rfl)) fun σ H R ⟨F,Re,k⟩=>⟨F,Re,fun vs H2 F2 s2 R2 q=>by
  obtain⟨v,u,e,q1,q2⟩:=q.two
  rw [q1.int,q2.int] at e;exact⟨m,n,e,h,k _ H2 F2 s2 R2 B7⟩⟩
theorem DIe.enum {elts:List Expr} {x1:Nat} {tp p:Pos} {l:List D} (hg:Gl X "enumerate") (hm:X.mg "enumerate" = none) (ha:DA X [a] ρ [.lst l]) (hs:Ga a=true):DIe X (.Tuple elts x1 tp) (.Call (.Name "enumerate" p) [a] [] pos) ρ (zfk l):=fun H0 Fc=>
 PI.mono (zqk hg hm (ha H0 Fc) (Gf hs)) fun σ H R ⟨F,Re,k⟩=>⟨F,Re,fun vs H2 F2 s2 R2 q=>by
  obtain⟨v,e,q⟩:=q.one
  obtain⟨a,xs,e1,sq,r⟩:=q.lst
  subst e1;exact⟨a,e,⟨xs,R2.sub.seq sq⟩,k _ H2 F2 s2 R2 (znt sq r)⟩⟩
theorem ER.set {K:PySem.W.Frag} {H0 Fc F H:Hp} {σ:L2.St} (R:ER K H0 Fc F H σ ρ) {i:Nat} {v:V} (q:Den K F d v) (hi:i<ρ.length) (hs:i<σ.length):ER K H0 Fc F H (σ.set i (some v)) (ρ.set i (some d)):=
 ⟨R.sub,R.same,R.base,R.new,fun j d' e=>by
  by_cases hj:j=i
  ·subst hj;rw [Wd hi] at e;cases e;exact⟨v,Wd hs,q⟩
  ·rw [Y9 (Wh hj)] at e |-;exact R.env j d' e⟩
theorem DGe.name {i:Nat} {x:Str} (hN:X.N.Nodup) (hi:X.N[i]? = some x) (hx:X.env.scope.names.lookup x=some .local) (hl:i<ρ.length):DGe X (.Name x pos) d ρ (ρ.set i (some d)):=fun H0 Fc=>
 PG.mono (zqm hN hi (.inl hx) (.inr hx)) fun v σ H Q ⟨hlen,F,R,q,k⟩=>k _ (by rw [Qe];exact hlen) (R.set q hl (by rw [hlen];exact (Zm.mp hi).1))
def DGse (X:Cx) (tg:List Expr) (ds:List D) (ρ ρ':Rho):Prop:=∀ H0 Fc,PGs X tg (fun vs σ H Q=>σ.length=X.N.length/\∃ F,ER X.K H0 Fc F H σ ρ/\DenL X.K F ds vs/\∀ σ',σ'.length=X.N.length->ER X.K H0 Fc F H σ' ρ'->Q σ' H)
theorem DGse.nil:DGse X [] [] ρ ρ:=fun H0 Fc=>PGs.mono zql fun vs σ H Q ⟨hl,F,S,q,k⟩=>⟨q.inv_nil,k σ hl S⟩
theorem DGse.cons (h1:DGe X t d ρ ρ') (h2:DGse X ts ds ρ' ρ2) (hs:Ga t=true):DGse X (t::ts) (d::ds) ρ ρ2:=fun H0 Fc=>
 PGs.mono (zmi (h1 H0 Fc) (h2 H0 Fc) (by rw [Bs hs];rfl)) fun vs σ H Q ⟨hl,F,S,q,k⟩=>by
  obtain⟨v,r,e,q1,q2⟩:=q.inv_cons
  exact⟨v,r,e,hl,F,S,q1,fun σ' hl' S'=>⟨hl',F,S',q2,k⟩⟩
theorem DGe.tup {k} (hc:X.calm=true) (h:DGse X ts ds ρ ρ') (hs:ts.all Ga=true) (hl:ds.length=ts.length):DGe X (.Tuple ts k pos) (.tup ds) ρ ρ':=fun H0 Fc=>
 PG.mono (zxx (n:=ts.length) hc (h H0 Fc) (Gw hs).1 (Gw hs).2) fun v σ H Q ⟨hln,F,S,q,k⟩=>by
  obtain⟨a,xs,e,sq,r⟩:=q.tup
  exact⟨a,xs,e,Same.tup S.sub sq,by rw [r.length];exact hl,hln,F,S,r,k⟩
structure CompOk (X:Cx) (scope:Scope) (ts frees:List Str) (fr:List Nat):Prop where
 kind:scope.kind=.function
 cell:∀ y∈scope.names,y.2 ≠ .cell
 names:∀ y∈scope.names,y.2=.local->scope.names.lookup y.1=some .local
 all:∀ y∈scope.names,y.2=.free->X.env.kindOf y.1=some .cell
 free:∀ (m:Nat) (x:Str),frees[m]? = some x->scope.names.lookup x=some .free/\X.env.kindOf x=some .cell/\∃ j:Nat,fr[m]? = some j/\X.N[j]? = some x
 len:fr.length=frees.length
def zxi (X:Cx) (scope:Scope) (N':List Str) (X':Cx):Prop:=∃ cl C s₀ H₀ ex,X'=blk X scope cl C N' s₀ H₀ ex
theorem zea {pins:List (Addr×Obj)} {s:Shared} {σ:L2.St} {H:Hp} {scope:Scope} {ts frees:List Str} {fr:List Nat} (I:Inv X pins σ H s) (hC:CompOk X scope ts frees fr):∀ y∈scope.names,y.2=.free->∃ c,X.env.cells.lookup y.1=some c:=
 fun y hy hf=>I.ok.has y.1 (.inl (hC.all y hy hf))
theorem DE.comp {elt iter:Expr} {ifs:List Expr} {scope:Scope} {ts frees:List Str} {fr:List Nat} {items res:List D} {f:D->Option (Option D)} (hcalm:X.calm=true) (hC:CompOk X scope ts frees fr) (hi:DIe X tg iter ρ items) (hs:∀ x,foldedSetIterable iter X.env x=pure x)
  (hsz:items.length<=sizeLine) (hres:zaw f items=some res)
  (hblk:∀ (X':Cx),zxi X scope (ts++frees) X'->∀ (d:D) (o:Option D),d∈items->f d=some o->∃ ρd,DGe X' tg d (blkR ts.length fr ρ) ρd/\(∀ (i:Nat) d,(blkR ts.length fr ρ)[i]? = some (some d)->ρd[i]? = some (some d)) /\
   (match o with | none=>DTs X' ifs ρd false | some e=>DTs X' ifs ρd true/\DF X' elt ρd e)) :
  DE X (.ListComp elt [⟨tg,iter,ifs,0⟩] scope pos) ρ (.new res):=by
 intro H0 Fc pins s σ H Q I ⟨F,R,k⟩;rw [eval_ListComp];refine U9 (use:=none) rfl hs (zzc (zea I hC)) hC.kind hC.names (thn (hi H0 Fc pins s σ H (fun J H'=>∃ F',Same F F'/\ER X.K H0 Fc F' H' σ ρ/\Walks X.K F' J items) I ⟨F,R,fun J H' F' s' R' wk=>⟨F',s',R',wk⟩⟩) fun v s1 h1=>thn h1 fun itv s2 h2=>?_);obtain⟨it,fp,tn,J,H1,e1,I2,T,tn0,hfp,F1,sF1,R1,wk⟩:=h2
 subst e1;refine zgx (K:=X.K) rfl (σ':=blkR ts.length fr σ) (ρ0:=blkR ts.length fr ρ) (N':=ts++frees) I2 hcalm T tn0 hfp hC.kind hC.cell (zea I hC) R1 ?_ ?_ ?_ wk hsz hres (fun C s₀ H₀ d o hd ho=>hblk _ ⟨_,C,s₀,H₀,fp,rfl⟩ d o hd ho) ?_
 ·rw [znl,Zw,hC.len]
 ·intro i d e;obtain⟨m,j,e1,e2,e3⟩:=zbl e
  obtain⟨v,g1,g2⟩:=R1.env j d e3
  subst e1;exact⟨v,zsp e2 g1,g2⟩
 ·intro i x v e1 e2;obtain⟨m,j,e3,e4,e5⟩:=zbl e2
  subst e3;rw [Z0 (by omega),show ts.length+m-ts.length=m by omega] at e1;obtain⟨g1,g2,j',g3,g4⟩:=hC.free m x e1
  rw [e4] at g3;cases g3;exact⟨g1,g2,j,g4,e5⟩
 ·intro D C s5 H' F' ys m I5 hns hCn hCL hCs hCc hCp sF' R' hFD h0D hD dn;refine⟨m,hns,fun h' sb=>⟨.ref D,H',I5.turned (t':=s5.toks) (fun b o hb e=>sb.extBut b o hb e) hCn hCL (.inr hCs) hCc hCp,rfl,k _ H' F' (sF1.trans sF') R' (RW.n hFD h0D hD dn)⟩⟩
theorem DS.asgComp {i:Nat} {x:Str} {px spos:Pos} {elt iter:Expr} {ifs:List Expr} {scope:Scope} {ts frees:List Str} {fr:List Nat} {items res:List D} {f:D->Option (Option D)} {ρ:RhoS} (hN:X.N.Nodup) (hi':X.N[i]? = some x) (hx:Loc X.env.scope x) (hf:X.fn x=true\/X.env.scope.names.lookup x=some .local) (hl:i<ρ.length)
  (hsw:swapsWith (.ListComp elt [⟨tg,iter,ifs,0⟩] scope pos) (some (.Name x px)) spos.line X.env=pure true)
  (hcalm:X.calm=true) (hC:CompOk X scope ts frees fr) (hi:DIe X tg iter (view ρ) items) (hs:∀ x,foldedSetIterable iter X.env x=pure x)
  (hsz:items.length<=sizeLine) (hres:zaw f items=some res)
  (hblk:∀ (X':Cx),zxi X scope (ts++frees) X'->∀ (d:D) (o:Option D),d∈items->f d=some o->∃ ρd,DGe X' tg d (blkR ts.length fr (view ρ)) ρd/\(∀ (i:Nat) d,(blkR ts.length fr (view ρ))[i]? = some (some d)->ρd[i]? = some (some d)) /\
   (match o with | none=>DTs X' ifs ρd false | some e=>DTs X' ifs ρd true/\DF X' elt ρd e)) :
  DS X (.Assign [.Name x px] (.ListComp elt [⟨tg,iter,ifs,0⟩] scope pos) spos) ρ (.nx ((after (.new res) ρ).set i (some (.ow res)))):=by
 intro H0 Fc pins s σ H D I ⟨F,S,k⟩;obtain⟨s0,R⟩:=S.borrow
 rw [exec_Assign_Name_used _ _ _ _ hsw];refine Zg (K4 (Zg ?_));show wpAny _ X.A (do let _ <- comprehension (.ListComp elt [⟨tg,iter,ifs,0⟩] scope pos) scope X.env _ (newList []) false (eval iter X.env) (some (assign (.Name x px) X.env))) _ _ s;refine Zg (Ud (U9 (use:=some (assign (.Name x px) X.env)) (Q:=fun _ s'=>SP X pins D .next s') rfl hs (zzc (zea I hC)) hC.kind hC.names (thn (hi H0 Fc pins s σ H (fun J H'=>∃ F',Same (DL.borrow F H σ ρ) F'/\ER X.K H0 Fc F' H' σ (view ρ)/\Walks X.K F' J items) I ⟨_,R,fun J H' F' s' R' wk=>⟨F',s',R',wk⟩⟩) fun v s1 h1=>thn h1 fun itv s2 h2=>?_)) (fun _ s' hq=>Zy (Zy hq)) fun _ _ e=>e);obtain⟨it,fp,tn,J,H1,e1,I2,T,tn0,hfp,F1,sF1,R1,wk⟩:=h2
 subst e1;refine zgx (K:=X.K) rfl (σ':=blkR ts.length fr σ) (ρ0:=blkR ts.length fr (view ρ)) (N':=ts++frees) I2 hcalm T tn0 hfp hC.kind hC.cell (zea I hC) R1 ?_ ?_ ?_ wk hsz hres (fun C s₀ H₀ d o hd ho=>hblk _ ⟨_,C,s₀,H₀,fp,rfl⟩ d o hd ho) ?_
 ·rw [znl,Zw,hC.len]
 ·intro i d e;obtain⟨m,j,e1,e2,e3⟩:=zbl e
  obtain⟨v,g1,g2⟩:=R1.env j d e3
  subst e1;exact⟨v,zsp e2 g1,g2⟩
 ·intro i x v e1 e2;obtain⟨m,j,e3,e4,e5⟩:=zbl e2
  subst e3;rw [Z0 (by omega),show ts.length+m-ts.length=m by omega] at e1;obtain⟨g1,g2,j',g3,g4⟩:=hC.free m x e1
  rw [e4] at g3;cases g3;exact⟨g1,g2,j,g4,e5⟩
 ·intro Da C s5 H' F' ys m I5 hns hCn hCL hCs hCc hCp sF' R' hFD h0D hD dn;have q:RW X.K H0 F' H' (.new res) (.ref Da):=RW.n hFD h0D hD dn;obtain⟨F3,s3,S3,q3⟩:=S.after (sF1.trans sF') R' q
  refine wpAny_assign_Name (zis I5 hN hi' hx (v:=.ref Da) (u:=.ref Da) rfl (fun s6 I6 ⟨a6,sb6,ha6⟩=>⟨m,?_,fun h' sb=>?_⟩) hf)
  ·refine hns.sameBut sb6 (fun z=>?_);rcases ha6 with w | w
   ·exact hCL (z.trans w)
   ·exact hCc x a6 w z.symm
  ·refine⟨_,H',I6.turned (t':=s6.toks) (fun b o hb e=>sb.extBut b o hb e) hCn hCL (.inr hCs) hCc hCp,k _ H' F3 s3 (S3.bind q3 ?_ (Owned.not_after S (sF1.trans sF') q))⟩
   rw [<- S3.len,S.len];exact hl
end
end DL
namespace DL
open PySem L2 PyProof.Rows
structure TC where
 N:List Str
 sc:Scope
 fns:List (Str×Nat×Nat)
 rzs:List (Str×Nat×Nat)
 xs:Bool
def ixOf (x:Str):List Str->Option Nat
 | []=>none
 | y::l=>if x=y then some 0 else (ixOf x l).map (· + 1)
theorem zcm {x:Str}:∀ {l:List Str} {i:Nat},ixOf x l=some i->l[i]? = some x
 | [],_,h=>by cases h
 | y::l,i,h=>by
  unfold ixOf at h;by_cases e:x=y
  ·rw [if_pos e] at h;cases h;simp [e]
  ·rw [if_neg e] at h;obtain⟨j,hj,e2⟩:=Zb.mp h
   subst e2;simpa using zcm hj
def slot (c:TC) (x:Str):Option Nat:=
 if (x == ("__debug__" : Str))=true\/(x == ("__classdict__" : Str))=true then none else match c.sc.names.lookup x with
  | some .local=>ixOf x c.N
  | some .cell=>ixOf x c.N
  | _=>none
def isGl (c:TC) (x:Str):Bool:=!(x == ("__debug__" : Str)) && decide (c.sc.names.lookup x=some .globalImplicit)
def trOp:Operator->Option Op
 | .Add=>some .add
 | .Sub=>some .sub
 | .Mult=>some .mul
 | .FloorDiv=>some .fdiv
 | .Mod=>some .mod
 | .Pow=>some .pow
 | _=>none
def trCm:CmpOp->Option Cm
 | .Lt=>some .lt
 | .LtE=>some .le
 | .Gt=>some .gt
 | .GtE=>some .ge
 | .Eq=>some .eq
 | .NotEq=>some .ne
 | .Is=>some .isN
 | .IsNot=>some .notN
 | .In=>some .isin
 | .NotIn=>some .notin
def trTy (x:Str):Option Ty:=
 if x=Str.ofString Ty.int.nm then some .int else if x=Str.ofString Ty.bool.nm then some .bool else if x=Str.ofString Ty.tuple.nm then some .tuple else if x=Str.ofString Ty.list.nm then some .list else none
def Bi.nm:Bi->String
 | .len => "len" | .abs => "abs" | .min => "min" | .max => "max" | .sum => "sum"
def trBi (x:Str):Option Bi:=if x=Str.ofString Bi.len.nm then some .len else if x=Str.ofString Bi.abs.nm then some .abs else if x=Str.ofString Bi.min.nm then some .min else if x=Str.ofString Bi.max.nm then some .max else if x=Str.ofString Bi.sum.nm then some .sum else none
inductive Hd where
 | fn (f n:Nat) | bi (b:Bi) | isi | lst | no
def zcn (c:TC) (x:Str):Hd:=
 if isGl c x=true then match c.fns.lookup x with
  | some (f,n)=>.fn f n
  | none=>match trBi x with
   | some b=>.bi b
   | none=>if x=("isinstance" : Str) then .isi else if x=("list" : Str) then .lst else .no
 else .no
def locs (sc:Scope):List Str:=sc.names.filterMap fun y=>if y.2=NameKind.local then some y.1 else none
def frs' (sc:Scope):List Str:=sc.names.filterMap fun y=>if y.2=NameKind.free then some y.1 else none
def relS (scope sc:Scope):Scope:={scope with names:=scope.names.map fun (n,k)=>if (k == NameKind.free && sc.kind == .function && sc.names.lookup n == some .cell)=true then (n,NameKind.cell) else (n,k)}
def frIx (N:List Str):List Str->Option (List Nat)
 | []=>some []
 | x::l=>(ixOf x N).bind fun i=>(frIx N l).map fun r=>i::r
def zop (c:TC) (scope:Scope):Bool:=
 decide (scope.kind=.function) && scope.names.all (fun y=>decide (y.2 ≠ .cell)) && scope.names.all (fun y=>decide (y.2=.local->scope.names.lookup y.1=some .local)) &&
 scope.names.all (fun y=>decide (y.2=.free->c.sc.names.lookup y.1=some .cell/\scope.names.lookup y.1=some .free)) && decide ((locs scope++frs' scope).Nodup) && decide (c.sc.kind=.function)
def ycg:Expr->Bool
 | .Tuple _ _ _=>true
 | _=>false
def zvu:Expr->Bool
 | .Set _ _ _=>true
 | _=>false
def isB (c:TC) (x:Str) (y:String):Bool:=isGl c x && (c.fns.lookup x).isNone && decide (x=Str.ofString y)
def fmN (c:TC) (x:Str):List Expr->Option (Fm×List Expr)
 | [.Call (.Name y _) (a::as) [] _]=>if isB c x "list" = true/\isB c y "zip" = true then some (.zip,a::as) else none
 | _=>none
def fmT (c:TC) (x:Str):List Expr->Option (Fm×List Expr)
 | [a]=>if isB c x "tuple" = true then some (.tupl,[a]) else none
 | _=>none
def fmOf (c:TC) (x:Str) (es:List Expr):Option (Fm×List Expr):=match fmN c x es with
 | some r=>some r
 | none=>fmT c x es
def trI1 (rE:Expr->Option E) (c:TC) (tg:Expr):Expr->Option It'
 | .Call (.Name x p) [a] [] q=>if isB c x "range" = true/\Ga a=true then (rE a).map It'.range1 else if isB c x "enumerate" = true/\Ga a=true/\ycg tg=true then (rE a).map It'.enum else if isB c x "reversed" = true/\Ga a=true then (rE a).map It'.rev else (rE (.Call (.Name x p) [a] [] q)).map It'.seq
 | .Call (.Name x p) [a,b] [] q=>if isB c x "range" = true/\Ga a=true/\Ga b=true then (rE a).bind fun a'=>(rE b).map fun b'=>It'.range2 a' b' else (rE (.Call (.Name x p) [a,b] [] q)).map It'.seq
 | .Name x _=>(slot c x).map It'.seqV
 | e=>if zvu e=false then (rE e).map It'.seq else none
def zuj (c:TC) (x:Str):Option Nat:=if c.sc.names.lookup x=some .local then ixOf x c.N else none
def ziw (c:TC):List Expr->Option (List Nat)
 | []=>some []
 | .Name x _::es=>(zuj c x).bind fun i=>(ziw c es).map fun l=>i::l
 | _=>none
def zub (c:TC):Expr->Option Tg
 | .Name x _=>(zuj c x).map Tg.name
 | .Tuple es _ _=>(ziw c es).map Tg.tup
 | _=>none
def blkC (c:TC) (scope:Scope):TC:=⟨locs scope++frs' scope,relS scope c.sc,c.fns,c.rzs,c.xs⟩
def zjc:Expr->Bool
 | .Name _ _=>true
 | .Constant _ _ _=>true
 | .Call _ _ _ _=>true
 | .Subscript _ _ _=>true
 | _=>false
def zzq (rE:Expr->Option E) (p:Pos):List Expr->Option E
 | [a]=>rE a
 | a::b::es=>(rE a).bind fun a'=>(rE (.BoolOp .And (b::es) p)).map fun b'=>.and a' b'
 | []=>none
def trOr (rE:Expr->Option E) (p:Pos):List Expr->Option E
 | [a]=>rE a
 | a::b::es=>(rE a).bind fun a'=>(rE (.BoolOp .Or (b::es) p)).map fun b'=>.or a' b'
 | []=>none
def trB (rE:Expr->Option E) (p:Pos) (es:List Expr):BoolOp->Option E
 | .And=>zzq rE p es
 | .Or=>trOr rE p es
def trCp (rE:Expr->Option E) (a:Expr):List CmpOp->List Expr->Option E
 | [op],[b]=>if behindInMarks op b=false then (trCm op).bind fun o=>(rE a).bind fun a'=>(rE b).map fun b'=>.cmp o a' b' else none
 | _,_=>none
def trN (rT:Expr->Option E) (a:Expr):UnaryOp->Option E
 | .Not=>(rT a).map E.not
 | _=>none
def trT1 (rE:Expr->Option E) (rT:Expr->Option E):Expr->Option E
 | .UnaryOp o a _=>trN rT a o
 | .BoolOp o es p=>trB rT p es o
 | .Compare a ops bs _=>trCp rE a ops bs
 | e=>if zjc e=true then rE e else none
def zpn (rT:Expr->Option E):List Expr->Option EO
 | []=>some .non
 | [c]=>(rT c).map EO.som
 | _=>none
def trK:Const->Option E
 | .int i=>some (.int i)
 | .bool b=>some (.bl b)
 | .none=>some .non
 | _=>none
def trU (rE:Expr->Option E) (a:Expr):UnaryOp->Option E
 | .USub=>(rE a).map E.neg
 | .Not=>(rE a).map E.not
 | _=>none
def trLC (rC:TC->Expr->Option E) (rT:TC->Expr->Option E) (rE:Expr->Option E) (c:TC) (elt:Expr) (scope:Scope):List Comprehension->Option E
 | [⟨tg,iter,ifs,0⟩]=>if zop c scope=true then (trI1 rE c tg iter).bind fun it=>(zub (blkC c scope) tg).bind fun t=>(frIx c.N (frs' scope)).bind fun fr=>
   (rC (blkC c scope) elt).bind fun e=>(zpn (rT (blkC c scope)) ifs).map fun k=>.comp e t it (locs scope).length fr k else none
 | _=>none
def trSb (rE:Expr->Option E) (rO:Option Expr->Option EO) (a:Expr):Expr->Option E
 | .Slice lo hi none _=>(rE a).bind fun a'=>(rO lo).bind fun l=>(rO hi).map fun h=>.sl a' l h
 | b=>if zbi b=true then (rE a).bind fun a'=>(rE b).map fun b'=>.ix a' b' else none
def trIx (rE:Expr->Option E) (c:TC) (nm:Str) (x:Str) (ap cp:Pos) (e:Expr):Option E:=
 if nm=("index" : Str)/\Ga e=true/\(ap.endLine == cp.line)=true then (slot c x).bind fun i=>(rE e).map fun b=>.idx (.var i) b else none
def trE1 (rC:TC->Expr->Option E) (rT:TC->Expr->Option E) (rE:Expr->Option E) (rEs:List Expr->Option Es) (rO:Option Expr->Option EO) (c:TC):Expr->Option E
 | .Name x _=>(slot c x).map E.var
 | .Constant k _ _=>trK k
 | .BinOp a op b _=>(trOp op).bind fun o=>(rE a).bind fun a'=>(rE b).map fun b'=>.bin o a' b'
 | .UnaryOp o a _=>trU rE a o
 | .BoolOp o es p=>trB rE p es o
 | .Compare a ops bs _=>trCp rE a ops bs
 | .Tuple es _ _=>(rEs es).map E.tup
 | .List es _=>(rEs es).map E.lst
 | .ListComp elt gs scope _=>trLC rC rT rE c elt scope gs
 | .Subscript a b _=>trSb rE rO a b
 | .Call (.Attribute (.Name x _) nm ap) [e] [] cp=>trIx rE c nm x ap cp e
 | .Call (.Name x _) (e::es) [] _=>match fmOf c x (e::es) with
  | some (f,as)=>(rEs as).map (E.fm f)
  | none=>match zcn c x with
  | .fn f k=>if (e::es).length=k then (rEs (e::es)).map (E.call f) else none
  | .bi b=>(rEs (e::es)).map (E.bi b)
  | .isi=>match es with
   | [.Name y _]=>if isGl c y=true/\Ga e=true then (match trTy y with
     | some t=>(rE e).map fun e'=>.isi e' t
     | none=>none) else none
   | _=>none
  | .lst=>match es with
   | []=>if Ga e=true then (rE e).map E.lcp else none
   | _=>none
  | .no=>none
 | _=>none
mutual
def trE:Nat->TC->Expr->Option E
 | 0,_,_=>none
 | n+1,c,e=>trE1 (trE n) (trT n) (trE n c) (trEs n c) (trO n c) c e
def trEs:Nat->TC->List Expr->Option Es
 | 0,_,_=>none
 | n+1,c,[]=>some .nil
 | n+1,c,e::es=>if Ga e=true then (trE n c e).bind fun e'=>(trEs n c es).map fun l=>.cons e' l else none
def trO:Nat->TC->Option Expr->Option EO
 | 0,_,_=>none
 | n+1,c,none=>some .non
 | n+1,c,some e=>(trE n c e).map EO.som
def trT:Nat->TC->Expr->Option E
 | 0,_,_=>none
 | n+1,c,e=>trT1 (trE n c) (trT n c) e
end
theorem zjb {e:Expr} {env:Env} (h:zjc e=true):∀ whole,isTrue e env whole=(do let v <- whole;standAt e.pos;holding [v] (truthy v)):=fun whole=>by
 cases e <;> first | rfl | (cases h;done)
abbrev zab:List Str:=[Str.ofString "len", Str.ofString "abs", Str.ofString "isinstance", Str.ofString "int", Str.ofString "bool", Str.ofString "tuple", Str.ofString "list", Str.ofString "range", Str.ofString "enumerate", Str.ofString "min", Str.ofString "max", Str.ofString "sorted", Str.ofString "set", Str.ofString "reversed", Str.ofString "zip", Str.ofString "sum"]
structure XE (X:Cx) (c:TC) (Γ:Nat->List D->Option W):Prop where
 hN:X.N=c.N
 hsc:X.env.scope=c.sc
 nd:c.N.Nodup
 calm:X.calm=true
 kind:X.env.scope.kind=.function
 calls:∀ x f n,c.fns.lookup x=some (f,n)->zzg X x n (Γ f)
 xf:c.xs=true->XFacts X.K X.mg
 un:X.A.units+64<cLine
 blt:∀ x∈zab,X.mg x=none
structure XC (X:Cx) (c:TC) (Γ:Nat->List D->Option W):Prop extends XE X c Γ where
 fn:∀ x,X.fn x=true
 po:PassesOwn (model X.prog X.w) X.A X.env X.xe
 rz:∀ x f n,c.rzs.lookup x=some (f,n)->yef X x n (Γ f)
 st:X.stack=X.env::X.outer
 fr:X.env.frame=some X.env.locals
 nx:X.nox=X
section
variable {X:Cx} {c:TC} {Γ:Nat->List D->Option W}
theorem Bk (hX:XE X c Γ) {x:Str} {i:Nat} (h:slot c x=some i):X.N[i]? = some x/\Loc X.env.scope x/\(x == ("__debug__" : Str))=false/\(x == ("__classdict__" : Str))=false:=by
 unfold slot at h;by_cases z:(x == ("__debug__" : Str))=true\/(x == ("__classdict__" : Str))=true
 ·rw [if_pos z] at h;cases h
 ·rw [if_neg z] at h;have z1:(x == ("__debug__" : Str))=false:=by
   cases q:(x == ("__debug__" : Str)) with
   | false=>rfl
   | true=>exact absurd (.inl q) z
  have z2:(x == ("__classdict__" : Str))=false:=by
   cases q:(x == ("__classdict__" : Str)) with
   | false=>rfl
   | true=>exact absurd (.inr q) z
  split at h
  ·rename_i e;exact⟨by rw [hX.hN];exact zcm h,by rw [hX.hsc];exact .inl e,z1,z2⟩
  ·rename_i e;exact⟨by rw [hX.hN];exact zcm h,by rw [hX.hsc];exact .inr e,z1,z2⟩
  ·cases h
theorem Loc.vis {sc:Scope} {x:Str} (h:Loc sc x):Vis sc x:=by
 rcases h with h | h
 ·exact .inl h
 ·exact .inr (.inl h)
theorem zcy (hX:XE X c Γ) {x:Str} (h:isGl c x=true):Gl X x/\(x == ("__debug__" : Str))=false:=by
 unfold isGl at h;rw [Zl] at h;refine⟨?_,by simpa using h.1⟩
 show X.env.scope.names.lookup x=_;rw [hX.hsc];exact of_decide_eq_true h.2
theorem zce {ρ:Rho} {i:Nat} {d:D} (h:varD ρ i=some d):ρ[i]? = some (some d):=by
 unfold varD at h;split at h
 ·rename_i e;cases h;exact e
 ·cases h
theorem zbc {d:D} {i:Int} (h:dInt d=some i):d=.int i:=by
 cases d <;> first | (cases h;rfl) | (cases h;done)
theorem zoo {d:D} {i:Bool} (h:zav d=some i):d=.bl i:=by
 cases d <;> first | (cases h;rfl) | (cases h;done)
theorem zjj {o:Option W} {d:D} (h:o.map W.d=some d):∃ w,o=some w/\w.d=d:=Zb.mp h
theorem ztf {f:Int->Int->Option W} {x y:D} {w:W} (h:arW f x y=some w):∃ a b,x=.int a/\y=.int b/\f a b=some w:=by
 unfold arW at h;split at h
 ·exact⟨_,_,rfl,rfl,h⟩
 ·cases h
theorem op_ok {e1 e2:Expr} {op:Operator} {o:Op} {x y:D} {w:W} {ρ:Rho} {pos:Pos} (ho:trOp op=some o) (ha:DF X e1 ρ x) (hb:DF X e2 ρ y) (h:opW o x y=some w):DE X (.BinOp e1 op e2 pos) ρ w:=by
 have bits:∀ {a:Int} {n:Nat},a.natAbs<2^n->Builtin.Int.intBits a<=n:=fun {a n} h=>by
  unfold Builtin.Int.intBits;by_cases z:a=0
  ·rw [if_pos (by simpa using z)];exact Yi _
  ·rw [if_neg (by simpa using z)];have:=(Nat.log2_lt (by omega)).mpr h
   omega
 cases op <;> first | (cases ho;done) | skip
 all_goals cases ho
 ·change addW x y=some w at h
  unfold addW at h;split at h
  ·cases h;exact DE.opI0 op_add ha hb fun K F=>Den.int_mk
  ·rename_i l m;by_cases q:l.length+m.length<=sizeLine
   ·rw [if_pos q] at h;cases h;exact DE.cat ha hb q
   ·rw [if_neg q] at h;cases h
  ·cases h
 ·obtain⟨i,j,rfl,rfl,h'⟩:=ztf h
  clear h;have h:=h';clear h';cases h;exact DE.opI0 op_sub ha hb fun K F=>Den.int_mk
 ·obtain⟨i,j,rfl,rfl,h'⟩:=ztf h
  clear h;have h:=h';clear h';by_cases q:Gp i j=true
  ·rw [if_pos q] at h;cases h;unfold Gp at q;rw [Zl] at q;have q1:=of_decide_eq_true q.1;have q2:=of_decide_eq_true q.2;exact DE.opI (C:=IntMulOk) (L2.opI fun _ _ _ _ _ _ _ hc q=>mul_int q hc) ha hb (PySem.IntMulOk.of_bits (Ya (bits q1) (by decide)) (Ya (bits q2) (by decide))) fun K F=>Den.int_mk
  ·rw [if_neg q] at h;cases h
 ·obtain⟨i,j,rfl,rfl,h'⟩:=ztf h
  clear h;have h:=h';clear h';by_cases q:j=0
  ·rw [if_pos q] at h;cases h
  ·rw [if_neg q] at h;cases h;exact DE.opI ybi ha hb q fun K F=>Den.int_mk
 ·obtain⟨i,j,rfl,rfl,h'⟩:=ztf h
  clear h;have h:=h';clear h';by_cases q:zks i j=true
  ·rw [if_pos q] at h;cases h;unfold zks at q;rw [Zl,Zl] at q;have q1:=of_decide_eq_true q.1.1;have q2:=of_decide_eq_true q.1.2;have q3:=of_decide_eq_true q.2;exact DE.opI op_pow ha hb ⟨q1,by omega,q3⟩ fun K F=>Den.int_mk
  ·rw [if_neg q] at h;cases h
 ·obtain⟨i,j,rfl,rfl,h'⟩:=ztf h
  clear h;have h:=h';clear h';by_cases q:zaf j=true
  ·rw [if_pos q] at h;cases h;unfold zaf at q;rw [Zl] at q;have q1:=of_decide_eq_true q.1;have q2:=of_decide_eq_true q.2;refine DE.opI (C:=fun i j=>j≠0/\j.natAbs<2^9000) (L2.opI fun _ _ _ _ _ _ _ hc q=>floordiv_int hc.1 q (.inl (PyProof.noPylong_of_log2 ?_))) ha hb ⟨q1,q2⟩ fun K F=>Den.int_mk
   refine (Nat.log2_lt ?_).mpr hc.2;have:=hc.1
   omega
  ·rw [if_neg q] at h;cases h
end
end DL
namespace DL
open PySem L2 PyProof.Rows
section
variable {X:Cx} {c:TC} {Γ:Nat->List D->Option W}
theorem two_of {a b:Bool} (h:(a && b)=true):a=true/\b=true:=by simpa using h
theorem zmo {f:Int->Int->Bool} {x y:D} {k:Bool} (h:ordO f x y=some k):∃ a b,x=.int a/\y=.int b/\f a b=k:=by
 unfold ordO at h;split at h
 ·cases h;exact⟨_,_,rfl,rfl,rfl⟩
 ·cases h
theorem inO_s {x y:D} {k:Bool} (h:inO x y=some k):∃ l,y=.lst l/\dOk 50 x=true/\dOkL 49 l=true/\(l.any fun y=>eqD y x)=k:=by
 unfold inO at h;split at h
 ·split at h
  ·rename_i q;cases h;exact⟨_,rfl,(two_of q).1,(two_of q).2,rfl⟩
  ·cases h
 ·cases h
theorem zye {x y:D} {k:Bool} (h:nonO x y=some k):y=.non/\zdq x=k:=by
 unfold nonO at h;split at h
 ·cases h;exact⟨rfl,rfl⟩
 ·cases h
theorem zyw {x y:D} {k:Bool} (hu:X.A.units+64<cLine) (h:eqO x y=some k):zag X .Eq x y k/\zag X .NotEq x y (!k):=by
 have dl:∀ {l:List D},dOkL 49 l=true->dOk 50 (.lst l)=true:=fun q=>by simp only [dOk];exact q
 have dt:∀ {l:List D},dOkL 49 l=true->dOk 50 (.tup l)=true:=fun q=>by simp only [dOk];exact q
 unfold eqO at h;split at h
 ·cases h;exact⟨ydi,yde⟩
 ·cases h;exact⟨ydj,ydf⟩
 ·split at h
  ·rename_i q;cases h;have z:=zsg (X:=X) hu (dt (two_of q).1) (dt (two_of q).2);have z2:=zsf (X:=X) hu (dt (two_of q).1) (dt (two_of q).2);simp only [eqD] at z z2;exact⟨z,z2⟩
  ·cases h
 ·split at h
  ·rename_i q;cases h;have z:=zsg (X:=X) hu (dl (two_of q).1) (dl (two_of q).2);have z2:=zsf (X:=X) hu (dl (two_of q).1) (dl (two_of q).2);simp only [eqD] at z z2;exact⟨z,z2⟩
  ·cases h
 ·cases h
theorem zzb {op:CmpOp} {o:Cm} {x y:D} {k:Bool} (hu:X.A.units+64<cLine) (ho:trCm op=some o) (h:cmpD o x y=some k):zag X op x y k:=by
 cases op <;> first | (cases ho;done) | skip
 all_goals cases ho
 ·exact (zyw hu h).1
 ·obtain⟨j,hj,e⟩:=Zb.mp h
  subst e;exact (zyw hu hj).2
 ·obtain⟨a,b,rfl,rfl,rfl⟩:=zmo h
  exact cmp_lt
 ·obtain⟨a,b,rfl,rfl,rfl⟩:=zmo h
  exact cmp_le
 ·obtain⟨a,b,rfl,rfl,rfl⟩:=zmo h
  exact cmp_gt
 ·obtain⟨a,b,rfl,rfl,rfl⟩:=zmo h
  exact cmp_ge
 ·obtain⟨rfl,rfl⟩:=zye h
  exact ydg
 ·obtain⟨j,hj,e⟩:=Zb.mp h
  subst e;obtain⟨rfl,rfl⟩:=zye hj
  exact zwk
 ·obtain⟨l,rfl,h1,h2,rfl⟩:=inO_s h
  exact ydh hu h1 h2
 ·obtain⟨j,hj,e⟩:=Zb.mp h
  subst e;obtain⟨l,rfl,h1,h2,rfl⟩:=inO_s hj
  exact zwl hu h1 h2
theorem zpk {x:Str} {t:Ty} (h:trTy x=some t):x=Str.ofString t.nm:=by
 unfold trTy at h;repeat' split at h
 all_goals first | (cases h;assumption) | (cases h;done)
theorem zpo {x:Str} {t:Bi} (h:trBi x=some t):x=Str.ofString t.nm:=by
 unfold trBi at h;repeat' split at h
 all_goals first | (cases h;assumption) | (cases h;done)
theorem bi_ok {b:Bi} {ds:List D} {w:W} (hc:X.calm=true) (hu:X.A.units+64<cLine) (h:biW b ds=some w):zcs X (.builtin b.nm) ds w:=by
 cases b
 ·change lenW ds=_ at h
  unfold lenW at h;split at h
  ·cases h;exact zwv
  ·cases h;exact zwu
  ·cases h
 ·change absW ds=_ at h
  unfold absW at h;split at h
  ·cases h;exact ydq
  ·cases h
 ·change minW ds=_ at h
  unfold minW at h;split at h
  ·cases h;exact ydo hc
  ·obtain⟨m,h1,e⟩:=Zb.mp h
   subst e;exact zwr hc hu h1
  ·cases h
 ·change maxW ds=_ at h
  unfold maxW at h;split at h
  ·cases h;exact ydp hc
  ·obtain⟨m,h,e⟩:=Zb.mp h
   obtain⟨ns,h1,h2⟩:=Za.mp h
   subst e;exact zws hc h1 h2
  ·cases h
 ·change sumW ds=_ at h
  unfold sumW at h;split at h
  ·obtain⟨ns,h1,e⟩:=Zb.mp h
   subst e;exact ydn hc h1
  ·cases h
theorem ydm (b:Bi):bootBuiltins (Str.ofString b.nm)=some (.builtin b.nm):=by cases b <;> decide +kernel
theorem zss (b:Bi):Str.ofString b.nm ≠ "__name__" /\ Str.ofString b.nm∈zab:=by cases b <;> decide +kernel
theorem zzk (b:Ty):Str.ofString b.nm∈zab:=by cases b <;> decide +kernel
theorem zcf:∀ {n:Nat} {es:List Expr} {l:Es},trEs n c es=some l->es.all Ga=true
 | 0,_,_,h=>by simp only [trEs] at h;cases h
 | n+1,[],_,_=>rfl
 | n+1,e::es,l,h=>by
  simp only [trEs] at h;by_cases q:Ga e=true
  ·rw [if_pos q] at h;obtain⟨e',_,h⟩:=Za.mp h
   obtain⟨l',h,_⟩:=Zb.mp h
   rw [Wx,q,zcf h];rfl
  ·rw [if_neg q] at h;cases h
theorem yco:∀ {l:Es} {ρ:Rho} {ds:List D} {n:Nat} {es:List Expr},trEs n c es=some l->evs Γ l ρ=some ds->ds.length=es.length:=by
 intro l ρ ds n;induction n generalizing l ds with
 | zero=>intro es h;simp only [trEs] at h;cases h
 | succ n ih=>
  intro es h hv;cases es with
  | nil=>
   simp only [trEs] at h;cases h;simp only [evs] at hv;cases hv;rfl
  | cons e es=>
   simp only [trEs] at h;by_cases q:Ga e=true
   ·rw [if_pos q] at h;obtain⟨e',_,h⟩:=Za.mp h
    obtain⟨l',h3,z⟩:=Zb.mp h
    subst z;simp only [evs] at hv;obtain⟨d,_,hv⟩:=Za.mp hv
    obtain⟨ds',hv3,z⟩:=Zb.mp hv
    subst z;rw [Zu,Zu,ih h3 hv3]
   ·rw [if_neg q] at h;cases h
theorem zol {x:Str} (hX:XE X c Γ) (hh:zcn c x=.isi):x=("isinstance" : Str)/\Gl X "isinstance" := by
 unfold zcn at hh;split at hh
 ·rename_i hg;split at hh
  ·cases hh
  ·split at hh
   ·cases hh
   ·split at hh
    ·rename_i ex;subst ex;exact⟨rfl,(zcy hX hg).1⟩
    ·split at hh <;> cases hh
 ·cases hh
theorem zok {x:Str} (hX:XE X c Γ) (hh:zcn c x=.lst):x=("list" : Str)/\Gl X "list" := by
 unfold zcn at hh;split at hh
 ·rename_i hg;split at hh
  ·cases hh
  ·split at hh
   ·cases hh
   ·split at hh
    ·cases hh
    ·split at hh
     ·rename_i ex;subst ex;exact⟨rfl,(zcy hX hg).1⟩
     ·cases hh
 ·cases hh
theorem zrp {x:Str} {f k:Nat} (hX:XE X c Γ) (hh:zcn c x=.fn f k):c.fns.lookup x=some (f,k)/\Gl X x/\(x == ("__debug__" : Str))=false:=by
 unfold zcn at hh;split at hh
 ·rename_i hg;split at hh
  ·rename_i f' k' hf;cases hh;exact⟨hf,zcy hX hg⟩
  ·split at hh
   ·cases hh
   ·split at hh
    ·cases hh
    ·split at hh <;> cases hh
 ·cases hh
theorem zrq {x:Str} {b:Bi} (hX:XE X c Γ) (hh:zcn c x=.bi b):x=Str.ofString b.nm/\Gl X x/\(x == ("__debug__" : Str))=false:=by
 unfold zcn at hh;split at hh
 ·rename_i hg;split at hh
  ·cases hh
  ·split at hh
   ·rename_i b' hb;cases hh;exact⟨zpo hb,zcy hX hg⟩
   ·split at hh
    ·cases hh
    ·split at hh <;> cases hh
 ·cases hh
theorem zbs (hX:XE X c Γ) {x:Str} {y:String} (h:isB c x y=true):Gl X x/\x=Str.ofString y:=by
 unfold isB at h;rw [Zl,Zl] at h;exact⟨(zcy hX h.1.1).1,of_decide_eq_true h.2⟩
theorem zvz {x:Str} {es as:List Expr} {f:Fm} (h:fmN c x es=some (f,as)):∃ y p2 q2 a as',es=[.Call (.Name y p2) (a::as') [] q2]/\as=a::as'/\((f=.zip/\isB c x "list" = true/\isB c y "zip" = true)):=by
 unfold fmN at h;split at h
 ·split at h
  ·rename_i q;cases h;exact⟨_,_,_,_,_,rfl,rfl,⟨rfl,q.1,q.2⟩⟩
  ·cases h
 ·cases h
theorem fm_ok (hX:XE X c Γ) {x:Str} {p pos:Pos} {es as:List Expr} {f:Fm} {ds:List D} {w:W} {ρ:Rho} (hf:fmOf c x es=some (f,as)) (hs:as.all Ga=true) (ha:DA X as ρ ds) (hw:fmW f ds=some w):DE X (.Call (.Name x p) es [] pos) ρ w:=by
 have hu:X.A.units+16<cLine:=by have:=hX.un;omega
 unfold fmOf at hf;split at hf
 ·rename_i r hr;cases hf;obtain⟨y,p2,q2,a,as',rfl,rfl,h⟩:=zvz hr
  rw [Wx,Zl] at hs;rcases h with⟨rfl,h1,h2⟩
  ·obtain⟨g1,e1⟩:=zbs hX h1
   obtain⟨g2,e2⟩:=zbs hX h2
   subst e1;subst e2;unfold fmW at hw;split at hw
   all_goals first | (rename_i hq;cases hq;done) | skip
   all_goals first | (rename_i l hq;cases hq;done) | skip
   all_goals rename_i la lb hq
   ·split at hw
    ·rename_i hn;cases hw;exact DE.nestT (zvf hX.calm hn) g1 (hX.blt _ (by decide +kernel)) (by decide +kernel) (by decide) (by decide) g2 (hX.blt _ (by decide +kernel)) (by decide +kernel) (by decide) (by decide) ha hs.1 hs.2
    ·cases hw
   ·cases hw
 ·unfold fmT at hf;split at hf
  ·split at hf
   ·rename_i a h1;cases hf;obtain⟨g1,e1⟩:=zbs hX h1
    subst e1;rw [Wx,Zl] at hs;unfold fmW at hw;split at hw
    all_goals first | (rename_i hq;cases hq;done) | skip
    all_goals rename_i l hq
    all_goals first | (cases hq;done) | skip
    ·cases hw;exact DE.ty zsn g1 (hX.blt _ (by decide +kernel)) (by decide +kernel) (by decide) (by decide) ha hs.1 hs.2
    ·cases hw
   ·cases hf
  ·cases hf
theorem ziz {d:D} {l:List D} (h:seqD d=some l):d=.lst l\/d=.tup l:=by
 cases d <;> first | (cases h;done) | (cases h;first | exact .inl rfl | exact .inr rfl)
theorem zjn {d:D} {l:List D} (h:lstD d=some l):d=.lst l:=by
 cases d <;> first | (cases h;done) | (cases h;rfl)
theorem zzo {rE:Expr->Option E} (hX:XE X c Γ) (iF:∀ {e e' ρ d},rE e=some e'->(ev Γ e' ρ).map W.d=some d->DF X e ρ d) {tg e:Expr} {i:It'} {ρ:Rho} {l:List D} (h:trI1 rE c tg e=some i) (hv:evW Γ i ρ=some l):DIe X tg e ρ l/\zvu e=false:=by
 have iI:∀ {e e' ρ k},rE e=some e'->((ev Γ e' ρ).map W.d).bind dInt=some k->DF X e ρ (.int k):=fun {e e' ρ k} h hv=>by
  obtain⟨d,h1,h2⟩:=Za.mp hv
  rw [zbc h2] at h1;exact iF h h1
 have iS:∀ {e e' ρ l},rE e=some e'->evW Γ (.seq e') ρ=some l->DIe X tg e ρ l:=fun {e e' ρ l} h hv=>by
  simp only [evW] at hv;obtain⟨d,h1,h2⟩:=Za.mp hv
  rcases ziz h2 with z | z
  ·subst z;exact DIe.list (iF h h1)
  ·subst z;exact DIe.tup (iF h h1)
 unfold trI1 at h;split at h
 ·refine⟨?_,rfl⟩
  split at h
  ·rename_i q;obtain⟨a',ha,h⟩:=Zb.mp h
   subst h;simp only [evW] at hv;obtain⟨m,hm,hv⟩:=Za.mp hv
   split at hv
   ·rename_i z;cases hv;obtain⟨g1,g2⟩:=zbs hX q.1
    subst g2;exact DIe.range1 g1 (hX.blt _ (by decide +kernel)) (DA.cons (iI ha hm) DA.nil q.2) q.2 z.1 z.2
   ·cases hv
  ·split at h
   ·rename_i q;obtain⟨a',ha,h⟩:=Zb.mp h
    subst h;simp only [evW] at hv;obtain⟨l',hl,hv⟩:=Zb.mp hv
    subst hv;obtain⟨d,h1,h2⟩:=Za.mp hl
    rw [zjn h2] at h1;obtain⟨g1,g2⟩:=zbs hX q.1
    subst g2;cases tg <;> first | (cases q.2.2;done) | skip
    exact DIe.enum g1 (hX.blt _ (by decide +kernel)) (DA.cons (iF ha h1) DA.nil q.2.1) q.2.1
   ·split at h
    ·rename_i q;obtain⟨a',ha,h⟩:=Zb.mp h
     subst h;simp only [evW] at hv;obtain⟨l',hl,hv⟩:=Zb.mp hv
     subst hv;obtain⟨d,h1,h2⟩:=Za.mp hl
     rw [zjn h2] at h1;obtain⟨g1,g2⟩:=zbs hX q.1
     subst g2;exact DIe.rev g1 (hX.blt _ (by decide +kernel)) (DA.cons (iF ha h1) DA.nil q.2) q.2
    ·obtain⟨e',he,h⟩:=Zb.mp h
     subst h;exact iS he hv
 ·refine⟨?_,rfl⟩
  split at h
  ·rename_i q;obtain⟨a',ha,h⟩:=Za.mp h
   obtain⟨b',hb,h⟩:=Zb.mp h
   subst h;simp only [evW] at hv;obtain⟨m,hm,hv⟩:=Za.mp hv
   obtain⟨m2,hm2,hv⟩:=Za.mp hv
   split at hv
   ·rename_i z;cases hv;obtain⟨g1,g2⟩:=zbs hX q.1
    subst g2;exact DIe.range2 g1 (hX.blt _ (by decide +kernel)) (DA.cons (iI ha hm) (DA.cons (iI hb hm2) DA.nil q.2.2) q.2.1) q.2.1 q.2.2 z
   ·cases hv
  ·obtain⟨e',he,h⟩:=Zb.mp h
   subst h;exact iS he hv
 ·obtain⟨i,hi,h⟩:=Zb.mp h
  subst h;simp only [evW] at hv;obtain⟨d,h1,h2⟩:=Za.mp hv
  obtain⟨a1,a2,a3,a4⟩:=Bk hX hi
  refine⟨?_,rfl⟩
  rcases ziz h2 with z | z
  ·subst z;exact DIe.list (DF.var a1 (Loc.vis a2) a3 a4 (zce h1))
  ·subst z;exact DIe.tup (DF.var a1 (Loc.vis a2) a3 a4 (zce h1))
 ·split at h
  ·rename_i q;obtain⟨e',he,h⟩:=Zb.mp h
   subst h;exact⟨iS he hv,q⟩
  ·cases h
theorem noSet {e:Expr} {env:Env} (h:zvu e=false):∀ x,foldedSetIterable e env x=pure x:=fun x=>by
 cases e <;> first | (cases h;done) | rfl
theorem blk_xe (hX:XE X c Γ) {scope:Scope} (hB:zop c scope=true) {X':Cx} (h:zxi X scope (locs scope++frs' scope) X'):XE X' (blkC c scope) Γ:=by
 obtain⟨cl,C,s₀,H₀,ex,rfl⟩:=h
 unfold zop at hB;simp only [Zl,decide_eq_true_eq] at hB;obtain⟨⟨⟨⟨⟨b1,b2⟩,b3⟩,b4⟩,b5⟩,b6⟩:=hB
 refine⟨rfl,?_,b5,hX.calm,?_,hX.calls,hX.xf,hX.un,hX.blt⟩
 ·show relabel scope X.env=relS scope c.sc;rw [<- hX.hsc];rfl
 ·show (relabel scope X.env).kind=.function;exact b1
theorem zvj {sc:Scope} {x:Str} (h:x∈frs' sc):(x,NameKind.free)∈sc.names:=by
 unfold frs' at h;obtain⟨y,hy,e⟩:=Ji.mp h
 split at e
 ·rename_i k;cases e;rw [<- k];exact hy
 ·cases e
theorem zna {N:List Str}:∀ {l:List Str} {fr:List Nat},frIx N l=some fr->fr.length=l.length/\∀ (m:Nat) (x:Str),l[m]? = some x->∃ j:Nat,fr[m]? = some j/\N[j]? = some x
 | [],fr,h=>by simp only [frIx] at h;cases h;exact⟨rfl,fun m x e=>by simp at e⟩
 | y::l,fr,h=>by
  simp only [frIx] at h;obtain⟨i,hi,h⟩:=Za.mp h
  obtain⟨r,hr,h⟩:=Zb.mp h
  subst h;obtain⟨g1,g2⟩:=zna hr
  refine⟨by rw [Zu,Zu,g1],fun m x e=>?_⟩
  cases m with
  | zero=>simp at e;subst e;exact⟨i,by simp,zcm hi⟩
  | succ m=>simpa using g2 m x (by simpa using e)
theorem ydd (hX:XE X c Γ) {scope:Scope} {fr:List Nat} (hB:zop c scope=true) (hf:frIx c.N (frs' scope)=some fr):CompOk X scope (locs scope) (frs' scope) fr:=by
 unfold zop at hB;simp only [Zl,decide_eq_true_eq,Jw] at hB;obtain⟨⟨⟨⟨⟨b1,b2⟩,b3⟩,b4⟩,b5⟩,b6⟩:=hB
 obtain⟨g1,g2⟩:=zna hf
 refine⟨b1,b2,b3,fun y hy hk=>?_,fun m x e=>?_,g1⟩
 ·show X.env.scope.names.lookup y.1=_;rw [hX.hsc];exact (b4 y hy hk).1
 ·obtain⟨j,e1,e2⟩:=g2 m x e
  have:=b4 _ (zvj (Yh e)) rfl
  refine⟨this.2,?_,j,e1,by rw [hX.hN];exact e2⟩
  show X.env.scope.names.lookup x=_;rw [hX.hsc];exact this.1
theorem zmb (hX:XE X c Γ) {x:Str} {i:Nat} (h:zuj c x=some i):X.N[i]? = some x/\X.env.scope.names.lookup x=some .local:=by
 unfold zuj at h;split at h
 ·rename_i k;exact⟨by rw [hX.hN];exact zcm h,by rw [hX.hsc];exact k⟩
 ·cases h
theorem zci {ρ ρ':Rho} {i:Nat} {d:D} (h:setE ρ i d=some ρ'):i<ρ.length/\ρ'=ρ.set i (some d):=by
 unfold setE at h;by_cases q:i<ρ.length
 ·rw [if_pos q] at h;cases h;exact⟨q,rfl⟩
 ·rw [if_neg q] at h;cases h
theorem ziv (hX:XE X c Γ):∀ {ts:List Expr} {is:List Nat} {ds:List D} {ρ ρ':Rho},ziw c ts=some is->zac is ds ρ=some ρ'->DGse X ts ds ρ ρ'/\ts.all Ga=true/\ds.length=ts.length
 | [],is,ds,ρ,ρ',h,hb=>by
  simp only [ziw] at h;cases h;cases ds with
  | nil=>cases hb;exact⟨DGse.nil,rfl,rfl⟩
  | cons d ds=>cases hb
 | t::ts,is,ds,ρ,ρ',h,hb=>by
  unfold ziw at h;split at h
  ·rename_i z;cases z
  ·rename_i x p es z;cases z;obtain⟨i,hi,h⟩:=Za.mp h
   obtain⟨l,hl,h⟩:=Zb.mp h
   subst h;cases ds with
   | nil=>cases hb
   | cons d ds=>
    simp only [zac] at hb;obtain⟨ρ1,h1,hb⟩:=Za.mp hb
    obtain⟨q,e⟩:=zci h1
    subst e;obtain⟨g,g2,g3⟩:=ziv hX hl hb
    obtain⟨a1,a2⟩:=zmb hX hi
    exact⟨DGse.cons (DGe.name (by rw [hX.hN];exact hX.nd) a1 a2 q) g rfl,by rw [Wx,g2];rfl,by rw [Zu,Zu,g3]⟩
  ·cases h
theorem zua (hX:XE X c Γ) {tg:Expr} {t:Tg} (h:zub c tg=some t) {d:D} {ρ ρ':Rho} (hb:By t d ρ=some ρ'):DGe X tg d ρ ρ':=by
 unfold zub at h;split at h
 ·obtain⟨i,hi,h⟩:=Zb.mp h
  subst h;simp only [By] at hb;obtain⟨q,e⟩:=zci hb
  subst e;obtain⟨a1,a2⟩:=zmb hX hi
  exact DGe.name (by rw [hX.hN];exact hX.nd) a1 a2 q
 ·obtain⟨l,hl,h⟩:=Zb.mp h
  subst h;cases d <;> first | (simp only [By] at hb;cases hb;done) | skip
  simp only [By] at hb;obtain⟨g,g2,g3⟩:=ziv hX hl hb
  exact DGe.tup hX.calm g g2 g3
 ·cases h
theorem zcp {nt:Nat} {fr:List Nat} {ρ0:Rho}:∀ {is:List Nat} {ds:List D} {ρ ρ':Rho},(is.all fun i=>decide (i<nt))=true->zac is ds ρ=some ρ'->(∀ (i:Nat) d,(blkR nt fr ρ0)[i]? = some (some d)->ρ[i]? = some (some d))->∀ (i:Nat) d,(blkR nt fr ρ0)[i]? = some (some d)->ρ'[i]? = some (some d)
 | [],ds,ρ,ρ',_,hb,h=>by
  cases ds with
  | nil=>cases hb;exact h
  | cons d ds=>cases hb
 | j::is,ds,ρ,ρ',hj,hb,h=>by
  cases ds with
  | nil=>cases hb
  | cons d ds=>
   rw [Wx,Zl] at hj;simp only [zac] at hb;obtain⟨ρ1,h1,hb⟩:=Za.mp hb
   obtain⟨q,e⟩:=zci h1
   subst e;refine zcp hj.2 hb fun i d' e=>?_;obtain⟨m,_,e1,_,_⟩:=zbl e
   have:=of_decide_eq_true hj.1
   rw [Y9 (by omega)];exact h i d' e
theorem zjx {nt:Nat} {fr:List Nat} {ρ0:Rho} {t:Tg} {d:D} {ρ':Rho} (ht:tgOk nt t=true) (hb:By t d (blkR nt fr ρ0)=some ρ'):∀ (i:Nat) d,(blkR nt fr ρ0)[i]? = some (some d)->ρ'[i]? = some (some d):=by
 cases t with
 | name j=>
  simp only [By] at hb;obtain⟨q,e⟩:=zci hb
  subst e;intro i d' e;obtain⟨m,_,e1,_,_⟩:=zbl e
  have:=of_decide_eq_true ht
  rw [Y9 (by omega)];exact e
 | tup is=>
  cases d <;> first | (simp only [By] at hb;cases hb;done) | skip
  simp only [By] at hb;exact zcp ht hb fun i d e=>e
def ztl (X:Cx) (elt tg iter:Expr) (ifs:List Expr) (scope:Scope) (ρ:Rho) (w:W):Prop:=∃ (items res:List D) (f:D->Option (Option D)) (fr:List Nat),w=.new res/\CompOk X scope (locs scope) (frs' scope) fr/\DIe X tg iter ρ items/\(∀ x,foldedSetIterable iter X.env x=pure x)/\items.length<=sizeLine/\zaw f items=some res /\
 ∀ (X':Cx),zxi X scope (locs scope++frs' scope) X'->∀ (d:D) (o:Option D),d∈items->f d=some o->∃ ρd,DGe X' tg d (blkR (locs scope).length fr ρ) ρd/\(∀ (i:Nat) d,(blkR (locs scope).length fr ρ)[i]? = some (some d)->ρd[i]? = some (some d)) /\
   (match o with | none=>DTs X' ifs ρd false | some e=>DTs X' ifs ρd true/\DF X' elt ρd e)
theorem zgw {n:Nat} (hX:XE X c Γ) (iF:∀ {e e' ρ d},trE n c e=some e'->(ev Γ e' ρ).map W.d=some d->DF X e ρ d) (jE:∀ X' c',XE X' c' Γ->∀ e e' ρ w,trE n c' e=some e'->ev Γ e' ρ=some w->DE X' e ρ w)
  (jT:∀ X' c',XE X' c' Γ->∀ e e' ρ k,trT n c' e=some e'->((ev Γ e' ρ).map W.d).bind zav=some k->DT X' e ρ k) {elt tg iter:Expr} {ifs:List Expr} {scope:Scope} {e':E} {ρ:Rho} {w:W}
  (h:(if zop c scope=true then (trI1 (trE n c) c tg iter).bind fun it=>(zub (blkC c scope) tg).bind fun t=>(frIx c.N (frs' scope)).bind fun fr=>
   (trE n (blkC c scope) elt).bind fun e=>(zpn (trT n (blkC c scope)) ifs).map fun k=>E.comp e t it (locs scope).length fr k else none)=some e') (hv:ev Γ e' ρ=some w):ztl X elt tg iter ifs scope ρ w:=by
 split at h
 case isFalse=>cases h
 rename_i hB;obtain⟨it,hit,h⟩:=Za.mp h
 obtain⟨t,ht,h⟩:=Za.mp h
 obtain⟨fr,hfr,h⟩:=Za.mp h
 obtain⟨e1,he1,h⟩:=Za.mp h
 obtain⟨k,hk,h⟩:=Zb.mp h
 subst h;simp only [ev] at hv;obtain⟨items,hi,hv⟩:=Za.mp hv
 split at hv
 case isFalse=>cases hv
 rename_i z;obtain⟨res,hres,hv⟩:=Zb.mp hv
 subst hv;obtain⟨d1,d2⟩:=zzo hX (fun h hv=>iF h hv) hit hi
 refine⟨_,_,_,_,rfl,ydd hX hB hfr,d1,noSet d2,z.1,hres,fun X' hX' d o hd ho=>?_⟩
 obtain⟨ρd,hb,ho⟩:=Za.mp ho
 obtain⟨kk,hkk,ho⟩:=Za.mp ho
 have hXE:=blk_xe hX hB hX';have tests:DTs X' ifs ρd kk:=by
  revert hk
  cases ifs with
  | nil=>
   intro hk;simp only [zpn] at hk;cases hk;simp only [evc] at hkk;cases hkk;exact .inl ⟨rfl,rfl⟩
  | cons c1 rest=>
   cases rest with
   | nil=>
    intro hk;simp only [zpn] at hk;obtain⟨c2,hc2,hk⟩:=Zb.mp hk
    subst hk;simp only [evc] at hkk;exact .inr ⟨c1,rfl,jT X' _ hXE _ _ _ _ hc2 hkk⟩
   | cons c2 rest=>
    intro hk;simp only [zpn] at hk;cases hk
 refine⟨ρd,zua hXE ht hb,zjx z.2 hb,?_⟩
 cases kk with
 | false=>
  rw [if_neg Zx] at ho;cases ho;exact tests
 | true=>
  rw [if_pos rfl] at ho;obtain⟨de,hde,ho⟩:=Zb.mp ho
  subst ho;obtain⟨w,hw1,hw2⟩:=zjj hde
  subst hw2;exact⟨tests,(jE X' _ hXE _ _ _ _ he1 hw1).df⟩
theorem zen:∀ n (X:Cx) (c:TC),XE X c Γ->(∀ e e' ρ w,trE n c e=some e'->ev Γ e' ρ=some w->DE X e ρ w)/\(∀ es l ρ ds,trEs n c es=some l->evs Γ l ρ=some ds->DA X es ρ ds) /\
  (∀ o o' ρ i,trO n c o=some o'->evo Γ o' ρ=some i->DO X o ρ i)/\(∀ e e' ρ k,trT n c e=some e'->((ev Γ e' ρ).map W.d).bind zav=some k->DT X e ρ k) /\
  (∀ op es p e' ρ k,trT n c (.BoolOp op es p)=some e'->((ev Γ e' ρ).map W.d).bind zav=some k->DW X (.BoolOp op es p) ρ k):=by
 intro n;induction n with
 | zero=>exact fun X c hX=>⟨fun e e' ρ w h=>by (simp only [trE] at h;cases h),fun e e' ρ w h=>by (simp only [trEs] at h;cases h),fun e e' ρ w h=>by (simp only [trO] at h;cases h),fun e e' ρ w h=>by (simp only [trT] at h;cases h),fun op es p e' ρ w h=>by (simp only [trT] at h;cases h)⟩
 | succ n ih0=>
  intro X c hX;obtain⟨iE,iEs,iO,iT,iW⟩:=ih0 X c hX
  have iF:∀ {e e' ρ d},trE n c e=some e'->(ev Γ e' ρ).map W.d=some d->DF X e ρ d:=fun {e e' ρ d} h hv=>by
   obtain⟨w,h1,h2⟩:=zjj hv
   subst h2;exact (iE _ _ _ _ h h1).df
  have iB:∀ {e e' ρ k},trE n c e=some e'->((ev Γ e' ρ).map W.d).bind zav=some k->DF X e ρ (.bl k):=fun {e e' ρ k} h hv=>by
   obtain⟨d,h1,h2⟩:=Za.mp hv
   rw [zoo h2] at h1;exact iF h h1
  have iI:∀ {e e' ρ k},trE n c e=some e'->((ev Γ e' ρ).map W.d).bind dInt=some k->DF X e ρ (.int k):=fun {e e' ρ k} h hv=>by
   obtain⟨d,h1,h2⟩:=Za.mp hv
   rw [zbc h2] at h1;exact iF h h1
  have hWW:∀ op es p e' ρ k,trT (n+1) c (.BoolOp op es p)=some e'->((ev Γ e' ρ).map W.d).bind zav=some k->DW X (.BoolOp op es p) ρ k:=by
   intro op es p e' ρ k h hv;simp only [trT] at h;change trB _ p es op=some e' at h
   unfold trB at h;split at h
   ·unfold zzq at h;split at h
    ·exact DW.and1 (iT _ _ _ _ h hv)
    ·obtain⟨a',ha,h⟩:=Za.mp h
     obtain⟨b',hb,h⟩:=Zb.mp h
     subst h;simp only [ev] at hv;obtain⟨d,hd0,hv⟩:=Za.mp hv
     obtain⟨w,hd1,z⟩:=zjj hd0
     subst z;obtain⟨k1,hk,hd⟩:=Za.mp hd1
     cases k1 with
     | true=>
      rw [if_pos rfl] at hd;exact DW.andT (iT _ _ _ _ ha hk) (iW _ _ _ _ _ _ hb (by rw [hd];exact hv))
     | false=>
      rw [if_neg Zx] at hd;cases hd;cases hv;exact DW.andF (iT _ _ _ _ ha hk) zmf
    ·cases h
   ·unfold trOr at h;split at h
    ·exact DW.or1 (iT _ _ _ _ h hv)
    ·obtain⟨a',ha,h⟩:=Za.mp h
     obtain⟨b',hb,h⟩:=Zb.mp h
     subst h;simp only [ev] at hv;obtain⟨d,hd0,hv⟩:=Za.mp hv
     obtain⟨w,hd1,z⟩:=zjj hd0
     subst z;obtain⟨k1,hk,hd⟩:=Za.mp hd1
     cases k1 with
     | true=>
      rw [if_pos rfl] at hd;cases hd;cases hv;exact DW.orT (iT _ _ _ _ ha hk) zmf
     | false=>
      rw [if_neg Zx] at hd;exact DW.orF (iT _ _ _ _ ha hk) (iW _ _ _ _ _ _ hb (by rw [hd];exact hv))
    ·cases h
  refine⟨fun e e' ρ w h hv=>?_,fun es l ρ ds h hv=>?_,fun o o' ρ i h hv=>?_,fun e e' ρ k h hv=>?_,hWW⟩
  ·simp only [trE] at h;unfold trE1 at h;split at h
   ·-- Name
    obtain⟨i,h1,h2⟩:=Zb.mp h
    subst h2;simp only [ev] at hv;obtain⟨d,h3,h4⟩:=Zb.mp hv
    subst h4;obtain⟨a1,a2,a3,a4⟩:=Bk hX h1
    exact (DF.var a1 (Loc.vis a2) a3 a4 (zce h3)).de
   ·unfold trK at h;split at h
    ·cases h;simp only [ev] at hv;cases hv;exact DF.cint.de
    ·cases h;simp only [ev] at hv;cases hv;exact DF.cbl.de
    ·cases h;simp only [ev] at hv;cases hv;exact DF.cnon.de
    ·cases h
   ·-- BinOp
    obtain⟨o,ho,h⟩:=Za.mp h
    obtain⟨a',ha,h⟩:=Za.mp h
    obtain⟨b',hb,h⟩:=Zb.mp h
    subst h;simp only [ev] at hv;obtain⟨x,hx,hv⟩:=Za.mp hv
    obtain⟨y,hy,hv⟩:=Za.mp hv
    exact op_ok ho (iF ha hx) (iF hb hy) hv
   ·unfold trU at h;split at h
    ·-- USub
     obtain⟨a',ha,h⟩:=Zb.mp h
     subst h;simp only [ev] at hv;obtain⟨i,hi,hv⟩:=Zb.mp hv
     subst hv;exact DE.neg (iI ha hi)
    ·-- Not
     obtain⟨a',ha,h⟩:=Zb.mp h
     subst h;simp only [ev] at hv;obtain⟨i,hi,hv⟩:=Zb.mp hv
     subst hv;exact DE.not (iB ha hi)
    ·cases h
   ·unfold trB at h;split at h
    ·unfold zzq at h;split at h
     ·exact DE.one (iE _ _ _ _ h hv)
     ·-- And
      obtain⟨a',ha,h⟩:=Za.mp h
      obtain⟨b',hb,h⟩:=Zb.mp h
      subst h;simp only [ev] at hv;obtain⟨k,hk,hv⟩:=Za.mp hv
      cases k with
      | true=>
       rw [if_pos rfl] at hv;exact DE.andT (iB ha hk) (iE _ _ _ _ hb hv)
      | false=>
       rw [if_neg Zx] at hv;cases hv;exact DE.andF (iB ha hk)
     ·cases h
    ·unfold trOr at h;split at h
     ·exact DE.one (iE _ _ _ _ h hv)
     ·-- Or
      obtain⟨a',ha,h⟩:=Za.mp h
      obtain⟨b',hb,h⟩:=Zb.mp h
      subst h;simp only [ev] at hv;obtain⟨k,hk,hv⟩:=Za.mp hv
      cases k with
      | true=>
       rw [if_pos rfl] at hv;cases hv;exact DE.orT (iB ha hk)
      | false=>
       rw [if_neg Zx] at hv;exact DE.orF (iB ha hk) (iE _ _ _ _ hb hv)
     ·cases h
   ·unfold trCp at h;split at h
    ·-- Compare
     split at h
     case isFalse=>cases h
     rename_i hmk;obtain⟨o,ho,h⟩:=Za.mp h
     obtain⟨a',ha,h⟩:=Za.mp h
     obtain⟨b',hb,h⟩:=Zb.mp h
     subst h;simp only [ev] at hv;obtain⟨x,hx,hv⟩:=Za.mp hv
     obtain⟨y,hy,hv⟩:=Za.mp hv
     obtain⟨k,hk,hv⟩:=Zb.mp hv
     subst hv;exact DE.cmp (zzb hX.un ho hk) (iF ha hx) (iF hb hy) hmk
    ·cases h
   ·-- Tuple
    obtain⟨l,hl,h⟩:=Zb.mp h
    subst h;simp only [ev] at hv;obtain⟨ds,hd,hv⟩:=Za.mp hv
    by_cases q:ds.length<=sizeLine
    ·rw [if_pos q] at hv;cases hv;exact DE.tup (iEs _ _ _ _ hl hd) q
    ·rw [if_neg q] at hv;cases hv
   ·-- List
    obtain⟨l,hl,h⟩:=Zb.mp h
    subst h;simp only [ev] at hv;obtain⟨ds,hd,hv⟩:=Za.mp hv
    by_cases q:ds.length<=sizeLine
    ·rw [if_pos q] at hv;cases hv;exact DE.lst (iEs _ _ _ _ hl hd) q
    ·rw [if_neg q] at hv;cases hv
   ·unfold trLC at h;split at h
    ·-- a comprehension
     obtain⟨items,res,f,fr,e1,hC,hI,hS,hz,hr,hb⟩:=zgw hX (fun h hv=>iF h hv) (fun X' c' h=>(ih0 X' c' h).1) (fun X' c' h=>(ih0 X' c' h).2.2.2.1) h hv
     subst e1;exact DE.comp hX.calm hC hI hS hz hr hb
    ·cases h
   ·unfold trSb at h;split at h
    ·-- a slice
     obtain⟨a',ha,h⟩:=Za.mp h
     obtain⟨l',hl,h⟩:=Za.mp h
     obtain⟨h',hh,h⟩:=Zb.mp h
     subst h;simp only [ev] at hv;obtain⟨x,hx,hv⟩:=Za.mp hv
     obtain⟨i,hi,hv⟩:=Za.mp hv
     obtain⟨j,hj,hv⟩:=Za.mp hv
     cases x <;> first | (cases hv;done) | skip
     cases hv;exact DE.slL (iF ha hx) (iO _ _ _ _ hl hi) (iO _ _ _ _ hh hj)
    ·-- a subscript
     split at h
     ·rename_i hs;obtain⟨a',ha,h⟩:=Za.mp h
      obtain⟨b',hb,h⟩:=Zb.mp h
      subst h;simp only [ev] at hv;obtain⟨x,hx,hv⟩:=Za.mp hv
      obtain⟨y,hy,hv⟩:=Za.mp hv
      obtain⟨d,hd,hv⟩:=Zb.mp hv
      subst hv;unfold ixD at hd;split at hd
      ·exact DE.ixT (iF ha hx) (iF hb hy) hs hd
      ·exact DE.ixL (iF ha hx) (iF hb hy) hs hd
      ·cases hd
     ·cases h
   ·unfold trIx at h;split at h
    ·rename_i q;obtain⟨i,h1,h⟩:=Za.mp h
     obtain⟨b',hb,h⟩:=Zb.mp h
     subst h;simp only [ev] at hv;obtain⟨d,hd,hv⟩:=Za.mp hv
     obtain⟨y,hy,hv⟩:=Za.mp hv
     obtain⟨w1,h3,h4⟩:=zjj hd
     obtain⟨d1,h5,h6⟩:=Zb.mp h3
     subst h6;subst h4;obtain⟨a1,a2,a3,a4⟩:=Bk hX h1
     obtain⟨q1,q2,q3⟩:=q
     subst q1;cases d1 <;> first | (cases hv;done) | skip
     obtain⟨k,hk,e⟩:=Zb.mp hv
     subst e;exact DE.idx hX.un (DF.var a1 (Loc.vis a2) a3 a4 (zce h5)) (iF hb hy) q2 q3 hk
    ·cases h
   ·-- a call
    rename_i x p e es pos;split at h
    ·rename_i f as hf;obtain⟨l,hl,h⟩:=Zb.mp h
     subst h;simp only [ev] at hv;obtain⟨ds,hd,hv⟩:=Za.mp hv
     exact fm_ok hX hf (zcf hl) (iEs _ _ _ _ hl hd) hv
    split at h
    ·rename_i f k hh;split at h
     ·rename_i hk;obtain⟨l,hl,h⟩:=Zb.mp h
      subst h;simp only [ev] at hv;obtain⟨ds,hd,hv⟩:=Za.mp hv
      obtain⟨hf,g1,g2⟩:=zrp hX hh
      have hst:=zcf hl;rw [Wx,Zl] at hst;exact DE.call (hX.calls _ _ _ hf) g1 g2 (iEs _ _ _ _ hl hd) ((yco hl hd).trans hk) hv hst.1 hst.2
     ·cases h
    ·rename_i b hh;obtain⟨l,hl,h⟩:=Zb.mp h
     subst h;simp only [ev] at hv;obtain⟨ds,hd,hv⟩:=Za.mp hv
     obtain⟨e1,g1,g2⟩:=zrq hX hh
     have hst:=zcf hl;rw [Wx,Zl] at hst;subst e1;exact DE.blt (bi_ok hX.calm hX.un hv) g1 (hX.blt _ (zss b).2) (ydm b) (zss b).1 g2 (iEs _ _ _ _ hl hd) hst.1 hst.2
    ·rename_i hh;obtain⟨ex,hs1⟩:=zol hX hh
     subst ex;split at h
     ·rename_i y p2;split at h
      ·rename_i hgy;obtain⟨g3,g4⟩:=zcy hX hgy.1
       split at h
       ·rename_i t ht;obtain⟨e',he,h⟩:=Zb.mp h
        subst h;simp only [ev] at hv;obtain⟨d,hd,hv⟩:=Za.mp hv
        obtain⟨k,hk,hv⟩:=Zb.mp hv
        subst hv;have e1:=zpk ht;subst e1;have e2:k=isTy t d:=by
         unfold zoj at hk;split at hk
         ·cases hk
         ·cases hk;rfl
        subst e2;exact DE.isi hk (iF he hd) hgy.2 hs1 (hX.blt _ (by decide +kernel)) rfl g3 (hX.blt _ (zzk t))
       ·cases h
      ·cases h
     ·cases h
    ·rename_i hh;obtain⟨ex,hs1⟩:=zok hX hh
     subst ex;split at h
     ·split at h
      ·rename_i hst;obtain⟨e',he,h⟩:=Zb.mp h
       subst h;simp only [ev] at hv;obtain⟨d,hd,hv⟩:=Za.mp hv
       cases d <;> first | (cases hv;done) | skip
       ·cases hv;exact DE.ty zso hs1 (hX.blt _ (by decide +kernel)) (by decide +kernel) (by decide) (by decide) (DA.cons (iF he hd) DA.nil hst) hst rfl
       ·cases hv;exact DE.ty zwt hs1 (hX.blt _ (by decide +kernel)) (by decide +kernel) (by decide) (by decide) (DA.cons (iF he hd) DA.nil hst) hst rfl
      ·cases h
     ·cases h
    ·cases h
   ·cases h
  ·cases es with
   | nil=>
    simp only [trEs] at h;cases h;simp only [evs] at hv;cases hv;exact DA.nil
   | cons e es=>
    simp only [trEs] at h;by_cases q:Ga e=true
    ·rw [if_pos q] at h;obtain⟨e',he,h⟩:=Za.mp h
     obtain⟨l',h3,z⟩:=Zb.mp h
     subst z;simp only [evs] at hv;obtain⟨d,hd,hv⟩:=Za.mp hv
     obtain⟨ds',hv3,z⟩:=Zb.mp hv
     subst z;exact DA.cons (iF he hd) (iEs _ _ _ _ h3 hv3) q
    ·rw [if_neg q] at h;cases h
  ·cases o with
   | none=>
    simp only [trO] at h;cases h;simp only [evo] at hv;cases hv;exact DO.none
   | some e=>
    simp only [trO] at h;obtain⟨e',he,h⟩:=Zb.mp h
    subst h;simp only [evo] at hv;obtain⟨i,hi,hv⟩:=Zb.mp hv
    subst hv;exact DO.some (iI he hi)
  ·have h0:=h;simp only [trT] at h;unfold trT1 at h;split at h
   ·unfold trN at h;split at h
    ·obtain⟨a',ha,h⟩:=Zb.mp h
     subst h;simp only [ev] at hv;obtain⟨d,hd0,hv⟩:=Za.mp hv
     obtain⟨w,hd1,z⟩:=zjj hd0
     subst z;obtain⟨k1,hk,hd⟩:=Zb.mp hd1
     subst hd;cases hv;exact DT.not (iT _ _ _ _ ha hk)
    ·cases h
   ·exact (hWW _ _ _ _ _ _ h0 hv).dt
   ·unfold trCp at h;split at h
    ·split at h
     case isFalse=>cases h
     rename_i hmk;obtain⟨o,ho,h⟩:=Za.mp h
     obtain⟨a',ha,h⟩:=Za.mp h
     obtain⟨b',hb,h⟩:=Zb.mp h
     subst h;simp only [ev] at hv;obtain⟨d,hd0,hv⟩:=Za.mp hv
     obtain⟨w,hd1,z⟩:=zjj hd0
     subst z;obtain⟨x,hx,hd2⟩:=Za.mp hd1
     obtain⟨y,hy,hd3⟩:=Za.mp hd2
     obtain⟨k1,hk,hd⟩:=Zb.mp hd3
     subst hd;cases hv;exact DT.cmp (zzb hX.un ho hk) (iF ha hx) (iF hb hy) hmk
    ·cases h
   ·split at h
    ·rename_i hp;exact DT.val (iB h hv) (zjb hp)
    ·cases h
theorem zgz (hX:XE X c Γ) (n:Nat):(∀ e e' ρ w,trE n c e=some e'->ev Γ e' ρ=some w->DE X e ρ w)/\(∀ es l ρ ds,trEs n c es=some l->evs Γ l ρ=some ds->DA X es ρ ds) /\
  (∀ o o' ρ i,trO n c o=some o'->evo Γ o' ρ=some i->DO X o ρ i):=⟨(zen n X c hX).1,(zen n X c hX).2.1,(zen n X c hX).2.2.1⟩
theorem zpm (hX:XE X c Γ) (n:Nat):(∀ e e' ρ k,trT n c e=some e'->((ev Γ e' ρ).map W.d).bind zav=some k->DT X e ρ k) /\
  (∀ op es p e' ρ k,trT n c (.BoolOp op es p)=some e'->((ev Γ e' ρ).map W.d).bind zav=some k->DW X (.BoolOp op es p) ρ k):=⟨(zen n X c hX).2.2.2.1,(zen n X c hX).2.2.2.2⟩
end
end DL
namespace DL
open PySem L2 PyProof.Rows
def zjr:Expr->Bool
 | .ListComp _ _ _ _=>true
 | .SetComp _ _ _ _=>true
 | .DictComp _ _ _ _ _=>true
 | _=>false
theorem zqv {e t:Expr} {line:Nat} {env:Env} (h:zjr e=false):swapsWith e (some t) line env=pure false:=by
 cases e <;> first | rfl | (cases h;done)
theorem zve {e:Expr} {ts:List Expr} {k:Nat} {p:Pos} {env:Env} (h:ycg e=false):swappedStores [.Tuple ts k p] e env=pure none:=by
 cases e <;> first | (cases h;done) | rfl
theorem zqw {e a k:Expr} {p:Pos} {env:Env}:swappedStores [.Subscript a k p] e env=pure none:=by
 cases e <;> rfl
theorem ybp {e t:Expr} {line:Nat} {env:Env} (h:zjr e=false):swapsWithSole [t] e line env=pure false:=by
 unfold swapsWithSole;exact zqv h
def swC (sc:Scope) (x:Str) (px pos:Pos) (scope:Scope):Bool:=decide (sc.names.lookup x=some NameKind.local) && (px.line == pos.line) && !(scope.names.any fun (n,k)=>n == x && (k == NameKind.local || k == NameKind.cell))
theorem zxm {x:Str} {px pos:Pos} {elt:Expr} {gs:List Comprehension} {scope:Scope} {line:Nat} {env:Env} (hk:env.scope.kind=.function):swapsWith (.ListComp elt gs scope pos) (some (.Name x px)) line env=pure (swC env.scope x px pos scope):=by
 have hbk:env.blockKind=.function:=by unfold Env.blockKind;rw [hk];rfl
 have e1:(env.kindOf x == some NameKind.local)=decide (env.scope.names.lookup x=some NameKind.local):=by
  unfold Env.kindOf;by_cases q:env.scope.names.lookup x=some NameKind.local
  ·rw [q];rfl
  ·rw [decide_eq_false q];cases z:env.scope.names.lookup x with
   | none=>rfl
   | some k=>cases k <;> first | rfl | (exact absurd z q)
 show pure _=pure _;rw [hbk];unfold swC;rw [<- e1];rfl
theorem zzt {x y:Str} {a b:Expr} {px py pt p2:Pos} {kt k2:Nat} {env:Env} (hk:env.scope.kind=.function) (hx:env.scope.names.lookup x=some .local) (hy:env.scope.names.lookup y=some .local) (hl:(px.line == py.line)=true) (hxy:x≠y)
  (ha:Ga a=true) (hb:Ga b=true) (h1:([a,b].all (foldedForSure 8))=false) (h2:([a,b].all (constantsAlone 8))=false) :
  swappedStores [.Tuple [.Name x px,.Name y py] kt pt] (.Tuple [a,b] k2 p2) env=pure (some [x,y]):=by
 have hbk:env.blockKind=.function:=by unfold Env.blockKind;rw [hk];rfl
 have kx:(env.kindOf x == some NameKind.local)=true:=by unfold Env.kindOf;rw [hx];rfl
 have ky:(env.kindOf y == some NameKind.local)=true:=by unfold Env.kindOf;rw [hy];rfl
 have e1:(y == x)=false:=by
  cases q:(y == x) with
  | false=>rfl
  | true=>exact absurd (eq_of_beq q).symm hxy
 have k1:env.kindOf x=some NameKind.local:=hx;have k2:env.kindOf y=some NameKind.local:=hy;have l1:py.line=px.line:=(eq_of_beq hl).symm;have p1:(Expr.Name x px).pos=px:=rfl;unfold swappedStores;simp only [Zu,Kj,hbk,h1,h2];simp [List.eraseDups,List.eraseDupsBy,List.eraseDupsBy.loop,e1,hxy,Wh hxy]
 rw [if_neg (by
  rintro (h | h)
  ·revert ha h;cases a <;> simp [Ga]
  ·revert hb h;cases b <;> simp [Ga])]
 simp [Km,k1,k2,l1,p1,List.eraseDups,List.eraseDupsBy,List.eraseDupsBy.loop,e1,hxy,Wh hxy]
end DL
namespace DL
open PySem L2 PyProof.Rows
def slots (c:TC):List Expr->Option (List Nat)
 | []=>some []
 | .Name x _::es=>(slot c x).bind fun i=>(slots c es).map fun l=>i::l
 | _=>none
def trTg (c:TC):Expr->Option Tg
 | .Name x _=>(slot c x).map Tg.name
 | .Tuple es _ _=>(slots c es).map Tg.tup
 | _=>none
def zpq (n:Nat) (c:TC) (x:Str):Expr->Option S
 | .ListComp elt gs scope pos=>if c.sc.kind=.function then (slot c x).bind fun i=>(trE n c (.ListComp elt gs scope pos)).map (S.asg i) else none
 | e=>if zjr e=false then (slot c x).bind fun i=>(trE n c e).map (S.asg i) else none
def zpp (n:Nat) (c:TC):List Expr->Expr->Option S
 | [.Name x px,.Name y py],.Tuple [a,b] _ _=>
  if (px.line == py.line)=true/\x≠y/\Ga a=true/\Ga b=true/\([a,b].all (foldedForSure 8))=false/\([a,b].all (constantsAlone 8))=false/\c.sc.names.lookup x=some .local/\c.sc.names.lookup y=some .local then
   (slot c x).bind fun i=>(slot c y).bind fun j=>(trE n c a).bind fun a'=>(trE n c b).map fun b'=>S.par i j a' b'
  else none
 | ts,e=>if zjr e=false/\ycg e=false then (slots c ts).bind fun is=>(trE n c e).map (S.unp is) else none
def zzp (n:Nat) (c:TC) (e:Expr):Expr->Option S
 | .Name x _=>zpq n c x e
 | .Subscript (.Name x _) k _=>if zjr e=false/\zbi k=true then (slot c x).bind fun i=>(trE n c k).bind fun k'=>(trE n c e).map (S.seti i k') else none
 | .Tuple ts _ _=>zpp n c ts e
 | _=>some .never
def zzn (n:Nat) (c:TC):Expr->Option S
 | .Name x _=>(slot c x).map S.retV
 | e=>(trE n c e).map S.ret
def v1 {α:Type}:List α->Option α
 | [a]=>some a
 | _=>none
def vN:Expr->Option Str
 | .Name x _=>some x
 | _=>none
theorem vN_s {s:Expr} {x:Str} (h:vN s=some x):∃ p,s = .Name x p:=by
 unfold vN at h;split at h
 ·cases h;exact⟨_,rfl⟩
 ·cases h
def vCl:Expr->Option (Expr×List Expr×Pos)
 | .Call f es [] p=>some (f,es,p)
 | _=>none
def vAt:Expr->Option (Expr×Str×Pos)
 | .Attribute a m p=>some (a,m,p)
 | _=>none
def xV (e:Expr):Option (Str×Str×Pos×List Expr×Pos):=(vCl e).bind fun p=>(vAt p.1).bind fun q=>(vN q.1).map fun x=>(x,q.2.1,q.2.2,p.2)
theorem vCl_s {s:Expr} {e:Expr×List Expr×Pos} (h:vCl s=some e):s = .Call e.1 e.2.1 [] e.2.2:=by
 unfold vCl at h;split at h
 ·cases h;rfl
 ·cases h
theorem vAt_s {s:Expr} {e:Expr×Str×Pos} (h:vAt s=some e):s = .Attribute e.1 e.2.1 e.2.2:=by
 unfold vAt at h;split at h
 ·cases h;rfl
 ·cases h
theorem xV_s {e:Expr} {x m:Str} {ap cp:Pos} {es:List Expr} (h:xV e=some (x,m,ap,es,cp)):∃ p,e = .Call (.Attribute (.Name x p) m ap) es [] cp:=by
 unfold xV at h;obtain⟨⟨f,l,z⟩,h1,h⟩:=Za.mp h
 obtain⟨⟨a,m0,ap0⟩,h2,h⟩:=Za.mp h
 obtain⟨y,h3,h⟩:=Zb.mp h
 cases h;obtain⟨p,h3⟩:=vN_s h3
 have h1:=vCl_s h1;have h2:=vAt_s h2;dsimp only at h1 h2 h3;exact⟨p,by rw [h1,h2,h3]⟩
def trX2 (n:Nat) (c:TC) (x m:Str) (ap cp:Pos):List Expr->Option S
 | [e]=>if m=("append" : Str)/\(ap.endLine == cp.line)=true/\Ga e=true then (slot c x).bind fun i=>(trE n c e).map (S.app i) else some .never
 | []=>if (ap.endLine == cp.line)=true then (if m=("pop" : Str) then (slot c x).map S.pop else if m=("clear" : Str) then (slot c x).map S.clr else some .never) else some .never
 | _=>some .never
def trX (n:Nat) (c:TC) (e:Expr):Option S:=match xV e with
 | some p=>trX2 n c p.1 p.2.1 p.2.2.1 p.2.2.2.2 p.2.2.2.1
 | none=>some .never
def trS1 (n:Nat) (rSs:List Stmt->Option Ss) (c:TC):Stmt->Option S
 | .Assign [t] e _=>zzp n c e t
 | .Return (some e) _=>zzn n c e
 | .If t a b _=>(trT n c t).bind fun t'=>(rSs a).bind fun a'=>(rSs b).map fun b'=>S.iff t' a' b'
 | .While t b [] _=>(trT n c t).bind fun t'=>(rSs b).map fun b'=>S.whl t' b'
 | .For tg it b [] _=>(trTg c tg).bind fun g=>(trI1 (trE n c) c tg it).bind fun i=>(rSs b).map fun b'=>S.frr g i b'
 | .Expr e _=>trX n c e
 | _=>some .never
mutual
def trS:Nat->TC->Stmt->Option S
 | 0,_,_=>none
 | n+1,c,s=>trS1 n (trSs n c) c s
def trSs:Nat->TC->List Stmt->Option Ss
 | 0,_,_=>none
 | n+1,c,[]=>some .nil
 | n+1,c,s::l=>(trS n c s).bind fun s'=>(trSs n c l).map fun l'=>.cons s' l'
end
section
variable {X:Cx} {c:TC} {Γ:Nat->List D->Option W}
theorem zrl (hX:XC X c Γ) {n:Nat} {e:Expr} {e':E} {ρ:Rho} {d:D} (h:trE n c e=some e') (hv:(ev Γ e' ρ).map W.d=some d):DF X e ρ d:=by
 obtain⟨w,h1,h2⟩:=zjj hv
 subst h2;exact ((zgz hX.toXE n).1 _ _ _ _ h h1).df
theorem zvv (hX:XC X c Γ) {n:Nat} {e:Expr} {e':E} {ρ:Rho} {k:Int} (h:trE n c e=some e') (hv:((ev Γ e' ρ).map W.d).bind dInt=some k):DF X e ρ (.int k):=by
 obtain⟨d,h1,h2⟩:=Za.mp hv
 rw [zbc h2] at h1;exact zrl hX h h1
theorem zch {ρ ρ':RhoS} {i:Nat} {b:B} (h:setR ρ i b=some ρ'):i<ρ.length/\ρ'=ρ.set i (some b):=by
 unfold setR at h;by_cases q:i<ρ.length
 ·rw [if_pos q] at h;cases h;exact⟨q,rfl⟩
 ·rw [if_neg q] at h;cases h
theorem zma (hX:XC X c Γ):∀ {ts:List Expr} {is:List Nat} {ds:List D} {ρ ρ':RhoS},slots c ts=some is->zca is ds ρ=some ρ'->DGs X ts ds ρ ρ'/\ts.all Ga=true/\ds.length=ts.length
 | [],is,ds,ρ,ρ',h,hb=>by
  simp only [slots] at h;cases h;cases ds with
  | nil=>cases hb;exact⟨DGs.nil,rfl,rfl⟩
  | cons d ds=>cases hb
 | t::ts,is,ds,ρ,ρ',h,hb=>by
  unfold slots at h;split at h
  ·rename_i z;cases z
  ·rename_i x p es z;cases z;obtain⟨i,hi,h⟩:=Za.mp h
   obtain⟨l,hl,h⟩:=Zb.mp h
   subst h;cases ds with
   | nil=>cases hb
   | cons d ds=>
    simp only [zca] at hb;obtain⟨ρ1,h1,hb⟩:=Za.mp hb
    obtain⟨q,e⟩:=zch h1
    subst e;obtain⟨g,g2,g3⟩:=zma hX hl hb
    obtain⟨a1,a2,a3,a4⟩:=Bk hX.toXE hi
    refine⟨DGs.cons (DG.name (by rw [hX.hN];exact hX.nd) a1 a2 (.inl (hX.fn _)) q) g rfl,by rw [Wx,g2];rfl,by rw [Zu,Zu,g3]⟩
  ·cases h
theorem zpl (hX:XC X c Γ) {tg:Expr} {t:Tg} (h:trTg c tg=some t) {d:D} {ρ ρ':RhoS} (hb:Be t d ρ=some ρ'):DG X tg d ρ ρ':=by
 unfold trTg at h;split at h
 ·obtain⟨i,hi,h⟩:=Zb.mp h
  subst h;simp only [Be] at hb;obtain⟨q,e⟩:=zch hb
  subst e;obtain⟨a1,a2,a3,a4⟩:=Bk hX.toXE hi
  exact DG.name (by rw [hX.hN];exact hX.nd) a1 a2 (.inl (hX.fn _)) q
 ·obtain⟨l,hl,h⟩:=Zb.mp h
  subst h;cases d <;> first | (simp only [Be] at hb;cases hb;done) | skip
  ·simp only [Be] at hb;obtain⟨g,g2,g3⟩:=zma hX hl hb
   exact DG.tup hX.calm g g2 g3
 ·cases h
theorem DI.listV {tg:Expr} {i:Nat} {x:Str} {p:Pos} {l:List D} {ρ:RhoS} (hN:X.N[i]? = some x) (hv:Vis X.env.scope x) (hd:(x == ("__debug__" : Str))=false) (hcd:(x == ("__classdict__" : Str))=false) (hr:ρ[i]? = some (some (.sh (.lst l)))):DI X tg (.Name x p) ρ l ρ:=fun H0 Fc=>PI.mono (zkt (zdg hN hv hd hcd)) fun σ H R ⟨F,S,k⟩=>by
 obtain⟨v,e0,q3⟩:=S.env i _ hr
 obtain⟨a,xs,e1,sq,r⟩:=q3.lst
 refine⟨v,e0,a,e1,⟨xs,S.sub.seq sq⟩,k _ H F (Same.refl _) S fun i H' sH=>⟨fun d hd=>?_,fun hle=>⟨xs,sH.seq sq,by rw [r.length];exact hle⟩⟩⟩
 obtain⟨y,h1,h2⟩:=r.get hd
 refine⟨⟨xs,y,sH.seq sq,h1⟩,fun x H'' ⟨ey,yy⟩=>?_⟩
 have:=yy xs (sH.seq sq)
 rw [h1] at this;cases this;exact .inl ⟨ey,h2⟩
theorem DI.tupV {tg:Expr} {i:Nat} {x:Str} {p:Pos} {l:List D} {ρ:RhoS} (hN:X.N[i]? = some x) (hv:Vis X.env.scope x) (hd:(x == ("__debug__" : Str))=false) (hcd:(x == ("__classdict__" : Str))=false) (hr:ρ[i]? = some (some (.sh (.tup l)))):DI X tg (.Name x p) ρ l ρ:=fun H0 Fc=>PI.mono (zqj (zdg hN hv hd hcd)) fun σ H R ⟨F,S,k⟩=>by
 obtain⟨v,e0,q3⟩:=S.env i _ hr
 obtain⟨a,xs,e1,sq,r⟩:=q3.tup
 refine⟨v,e0,a,e1,⟨xs,Same.tup S.sub sq⟩,k _ H F (Same.refl _) S fun i H' sH=>⟨fun d hd=>?_,fun hle=>⟨xs,Same.tup sH sq,by rw [r.length];exact hle⟩⟩⟩
 obtain⟨y,h1,h2⟩:=r.get hd
 refine⟨⟨xs,y,Same.tup sH sq,h1⟩,fun x H'' ⟨ey,yy⟩=>?_⟩
 have:=yy xs (Same.tup sH sq)
 rw [h1] at this;cases this;exact .inl ⟨ey,h2⟩
theorem zpx (hX:XC X c Γ) {n:Nat} {tg e:Expr} {e':E} {ρ ρ':RhoS} {l:List D} (h:trE n c e=some e') (hv:evI Γ (.seq e') ρ=some (l,ρ')):DI X tg e ρ l ρ':=by
 simp only [evI] at hv;obtain⟨w,hw,hv⟩:=Za.mp hv
 split at hv
 ·rename_i l' hl;cases hv;exact DI.list ((zgz hX.toXE n).1 _ _ _ _ h hw) hl
 ·rename_i l' hl;cases hv;exact DI.tup ((zgz hX.toXE n).1 _ _ _ _ h hw) hl
 ·cases hv
theorem trI_ok (hX:XC X c Γ) {n:Nat} {tg e:Expr} {i:It'} {ρ ρ':RhoS} {l:List D} (h:trI1 (trE n c) c tg e=some i) (hv:evI Γ i ρ=some (l,ρ')):DI X tg e ρ l ρ'/\zvu e=false:=by
 unfold trI1 at h;split at h
 ·refine⟨?_,rfl⟩
  split at h
  ·rename_i q;obtain⟨a',ha,h⟩:=Zb.mp h
   subst h;simp only [evI] at hv;obtain⟨m,hm,hv⟩:=Za.mp hv
   split at hv
   ·rename_i z;cases hv;obtain⟨g1,g2⟩:=zbs hX.toXE q.1
    subst g2;exact DI.range1 g1 (hX.blt _ (by decide +kernel)) (DA.cons (zvv hX ha hm) DA.nil q.2) q.2 z.1 z.2
   ·cases hv
  ·split at h
   ·rename_i q;obtain⟨a',ha,h⟩:=Zb.mp h
    subst h;simp only [evI] at hv;obtain⟨w,hw,hv⟩:=Za.mp hv
    split at hv
    ·rename_i l' hl;cases hv;obtain⟨g1,g2⟩:=zbs hX.toXE q.1
     subst g2;have hd:DF X _ (view ρ) (.lst l'):=zrl hX ha (by rw [hw];exact congrArg some hl);cases tg <;> first | (cases q.2.2;done) | skip
     exact DI.enum g1 (hX.blt _ (by decide +kernel)) (DA.cons hd DA.nil q.2.1) q.2.1
    ·cases hv
   ·split at h
    ·obtain⟨a',ha,h⟩:=Zb.mp h
     subst h;simp only [evI] at hv;cases hv
    ·obtain⟨e',he,h⟩:=Zb.mp h
     subst h;exact zpx hX he hv
 ·refine⟨?_,rfl⟩
  split at h
  ·rename_i q;obtain⟨a',ha,h⟩:=Za.mp h
   obtain⟨b',hb,h⟩:=Zb.mp h
   subst h;simp only [evI] at hv;obtain⟨m,hm,hv⟩:=Za.mp hv
   obtain⟨m2,hm2,hv⟩:=Za.mp hv
   split at hv
   ·rename_i z;cases hv;obtain⟨g1,g2⟩:=zbs hX.toXE q.1
    subst g2;exact DI.range2 g1 (hX.blt _ (by decide +kernel)) (DA.cons (zvv hX ha hm) (DA.cons (zvv hX hb hm2) DA.nil q.2.2) q.2.1) q.2.1 q.2.2 z
   ·cases hv
  ·obtain⟨e',he,h⟩:=Zb.mp h
   subst h;exact zpx hX he hv
 ·obtain⟨i,hi,h⟩:=Zb.mp h
  subst h;simp only [evI] at hv;obtain⟨a1,a2,a3,a4⟩:=Bk hX.toXE hi
  refine⟨?_,rfl⟩
  unfold seqB at hv;split at hv
  ·rename_i hr;cases hv;exact DI.listV a1 (Loc.vis a2) a3 a4 hr
  ·rename_i hr;cases hv;exact DI.tupV a1 (Loc.vis a2) a3 a4 hr
  ·rename_i hr;cases hv;exact DI.list (w:=.val (.lst l)) (DF.de (DF.var a1 (Loc.vis a2) a3 a4 (by unfold view;rw [Zi,hr];rfl))) rfl
  ·cases hv
 ·split at h
  ·rename_i q;obtain⟨e',he,h⟩:=Zb.mp h
   subst h;exact⟨zpx hX he hv,q⟩
  ·cases h
theorem zdy {s:Stmt} {s':S} {ρ:RhoS} {o:Out} (h:some S.never=some s') (hv:ex Γ s' ρ=some o):DS X s ρ o:=by
 cases h;simp only [ex] at hv;cases hv
theorem ydw (hX:XC X c Γ) {n:Nat} {x:Str} {px spos:Pos} {e:Expr} {s':S} {ρ:RhoS} {o:Out} (h:zpq n c x e=some s') (hv:ex Γ s' ρ=some o):DS X (.Assign [.Name x px] e spos) ρ o:=by
 unfold zpq at h;split at h
 ·rename_i elt gs scope pos;split at h
  case isFalse=>cases h
  rename_i hk0;obtain⟨i,hi,h⟩:=Za.mp h
  obtain⟨e',he,h⟩:=Zb.mp h
  subst h;simp only [ex] at hv;obtain⟨w,hw,hv⟩:=Za.mp hv
  obtain⟨ρ1,h1,hv⟩:=Zb.mp hv
  subst hv;obtain⟨q,e1⟩:=zch h1
  subst e1;obtain⟨a1,a2,a3,a4⟩:=Bk hX.toXE hi
  have hl:i<ρ.length:=by
   have:(after w ρ).length=ρ.length:=by unfold after;split;rfl;unfold frz;rw [Zc]
   rw [this] at q;exact q
  cases hsw:swC X.env.scope x px pos scope with
  | false=>exact DS.asg (by rw [hX.hN];exact hX.nd) a1 a2 (.inl (hX.fn _)) (by rw [zxm hX.kind,hsw]) hl ((zgz hX.toXE n).1 _ _ _ _ he hw)
  | true=>
   cases n with
   | zero=>simp only [trE] at he;cases he
   | succ n=>
    simp only [trE] at he;change trLC _ _ _ _ _ _ gs=_ at he
    unfold trLC at he;split at he
    ·obtain⟨items,res,f,fr,e1,hC,hI,hS,hz,hr,hb⟩:=zgw hX.toXE (fun h hv=>zrl hX h hv) (fun X' c' h=>(zen n X' c' h).1) (fun X' c' h=>(zen n X' c' h).2.2.2.1) he hw
     subst e1;exact DS.asgComp (by rw [hX.hN];exact hX.nd) a1 a2 (.inl (hX.fn _)) hl (by rw [zxm hX.kind,hsw]) hX.calm hC hI hS hz hr hb
    ·cases he
 ·split at h
  ·rename_i hc;obtain⟨i,hi,h⟩:=Za.mp h
   obtain⟨e',he,h⟩:=Zb.mp h
   subst h;simp only [ex] at hv;obtain⟨w,hw,hv⟩:=Za.mp hv
   obtain⟨ρ1,h1,hv⟩:=Zb.mp hv
   subst hv;obtain⟨q,e1⟩:=zch h1
   subst e1;obtain⟨a1,a2,a3,a4⟩:=Bk hX.toXE hi
   have hl:i<ρ.length:=by
    have:(after w ρ).length=ρ.length:=by unfold after;split;rfl;unfold frz;rw [Zc]
    rw [this] at q;exact q
   exact DS.asg (by rw [hX.hN];exact hX.nd) a1 a2 (.inl (hX.fn _)) (zqv hc) hl ((zgz hX.toXE n).1 _ _ _ _ he hw)
  ·cases h
theorem ydv (hX:XC X c Γ) {n:Nat} {ts:List Expr} {k:Nat} {tp spos:Pos} {e:Expr} {s':S} {ρ:RhoS} {o:Out} (h:zpp n c ts e=some s') (hv:ex Γ s' ρ=some o):DS X (.Assign [.Tuple ts k tp] e spos) ρ o:=by
 unfold zpp at h;split at h
 ·split at h
  ·rename_i q;obtain⟨q1,q2,q3,q4,q5,q6,q7,q8⟩:=q
   obtain⟨i,hi,h⟩:=Za.mp h
   obtain⟨j,hj,h⟩:=Za.mp h
   obtain⟨a',ha,h⟩:=Za.mp h
   obtain⟨b',hb,h⟩:=Zb.mp h
   subst h;simp only [ex] at hv;obtain⟨x,hx,hv⟩:=Za.mp hv
   obtain⟨y,hy,hv⟩:=Za.mp hv
   split at hv
   ·rename_i z;cases hv;obtain⟨a1,a2,a3,a4⟩:=Bk hX.toXE hi
    obtain⟨b1,b2,b3,b4⟩:=Bk hX.toXE hj
    have sx:=q7;have sy:=q8;rw [<- hX.hsc] at sx sy;exact DS.par hX.calm (by rw [hX.hN];exact hX.nd) a1 b1 z.2.2.1 sx sy (DA.cons (zrl hX ha hx) (DA.cons (zrl hX hb hy) DA.nil q4) q3) z.2.2.2.1 z.2.2.2.2 z.1 z.2.1 (zzt hX.kind sx sy q1 q2 q3 q4 q5 q6)
   ·cases hv
  ·cases h
 ·split at h
  ·rename_i q;obtain⟨is,hi,h⟩:=Za.mp h
   obtain⟨e',he,h⟩:=Zb.mp h
   subst h;simp only [ex] at hv;obtain⟨w,hw,hv⟩:=Za.mp hv
   obtain⟨ρ1,h1,hv⟩:=Zb.mp hv
   subst hv;exact DS.asgT ((zgz hX.toXE n).1 _ _ _ _ he hw) (zpl hX (by show (slots c _).map Tg.tup=_;rw [hi];rfl) h1) (by unfold swapsWithSole;exact zqv q.1) (zve q.2) rfl
  ·cases h
theorem asg_ok (hX:XC X c Γ) {n:Nat} {t:Expr} {spos:Pos} {e:Expr} {s':S} {ρ:RhoS} {o:Out} (h:zzp n c e t=some s') (hv:ex Γ s' ρ=some o):DS X (.Assign [t] e spos) ρ o:=by
 unfold zzp at h;split at h
 ·exact ydw hX h hv
 ·split at h
  ·rename_i hc;obtain⟨i,hi,h⟩:=Za.mp h
   obtain⟨k',hk,h⟩:=Za.mp h
   obtain⟨e',he,h⟩:=Zb.mp h
   subst h;simp only [ex] at hv;obtain⟨w,hw,hv⟩:=Za.mp hv
   obtain⟨j,hj,hv⟩:=Za.mp hv
   obtain⟨a1,a2,a3,a4⟩:=Bk hX.toXE hi
   split at hv
   ·rename_i l d hr _;split at hv
    ·rename_i hf;obtain⟨m,hm,hv⟩:=Zb.mp hv
     subst hv;exact DS.seti a1 (Loc.vis a2) a3 a4 hr ((zgz hX.toXE n).1 _ _ _ _ he hw) (zvv hX hk hj) hf hm hc.2 (ybp hc.1) zqw
    ·cases hv
   ·cases hv
  ·cases h
 ·exact ydv hX h hv
 ·exact zdy h hv
theorem ret_ok (hX:XC X c Γ) {n:Nat} {spos:Pos} {e:Expr} {s':S} {ρ:RhoS} {o:Out} (h:zzn n c e=some s') (hv:ex Γ s' ρ=some o):DS X (.Return (some e) spos) ρ o:=by
 unfold zzn at h;split at h
 ·obtain⟨i,hi,h⟩:=Zb.mp h
  subst h;simp only [ex] at hv;obtain⟨a1,a2,a3,a4⟩:=Bk hX.toXE hi
  split at hv
  ·rename_i l e;cases hv;exact DS.retOwn a1 (Loc.vis a2) a3 a4 e
  ·rename_i d e;cases hv;refine DS.ret (DF.var a1 (Loc.vis a2) a3 a4 ?_).de;unfold view;rw [Zi,e];rfl
  ·cases hv
 ·obtain⟨e',he,h⟩:=Zb.mp h
  subst h;simp only [ex] at hv;obtain⟨w,hw,hv⟩:=Zb.mp hv
  subst hv;exact DS.ret ((zgz hX.toXE n).1 _ _ _ _ he hw)
theorem x_ok (hX:XC X c Γ) {n:Nat} {spos:Pos} {e:Expr} {s':S} {ρ:RhoS} {o:Out} (h:trX n c e=some s') (hv:ex Γ s' ρ=some o):DS X (.Expr e spos) ρ o:=by
 unfold trX at h;split at h
 case h_2=>exact zdy h hv
 rename_i p hp;obtain⟨x,m,ap,es,cp⟩:=p
 obtain⟨xp,rfl⟩:=xV_s hp
 dsimp only at h;unfold trX2 at h;split at h
 ·split at h
  ·rename_i hc;obtain⟨i,hi,h⟩:=Za.mp h
   obtain⟨e',he,h⟩:=Zb.mp h
   subst h;simp only [ex] at hv;obtain⟨w,hw,hv⟩:=Za.mp hv
   obtain⟨a1,a2,a3,a4⟩:=Bk hX.toXE hi
   split at hv
   ·rename_i l d hr;split at hv
    ·rename_i hf;cases hv;obtain⟨c1,c2,c3⟩:=hc
     subst c1;exact DS.app a1 (Loc.vis a2) a3 a4 hr ((zgz hX.toXE n).1 _ _ _ _ he hw) c3 hf.1 hf.2 c2
    ·cases hv
   ·cases hv
  ·cases h;simp only [ex] at hv;cases hv
 ·split at h
  ·rename_i hl;split at h
   ·rename_i hm;obtain⟨i,hi,h⟩:=Zb.mp h
    subst h;subst hm;obtain⟨a1,a2,a3,a4⟩:=Bk hX.toXE hi
    simp only [ex] at hv;split at hv
    ·rename_i l hr;split at hv
     ·cases hv
     ·rename_i hn;cases hv;exact DS.pop a1 (Loc.vis a2) a3 a4 hr hn hl
    ·cases hv
   ·split at h
    ·rename_i hm;obtain⟨i,hi,h⟩:=Zb.mp h
     subst h;subst hm;obtain⟨a1,a2,a3,a4⟩:=Bk hX.toXE hi
     simp only [ex] at hv;split at hv
     ·rename_i l hr;cases hv;exact DS.clr a1 (Loc.vis a2) a3 a4 hr hl
     ·cases hv
    ·cases h;simp only [ex] at hv;cases hv
  ·cases h;simp only [ex] at hv;cases hv
 ·exact zdy h hv
theorem trS_ok (hX:XC X c Γ):∀ n,(∀ s s' ρ o,trS n c s=some s'->ex Γ s' ρ=some o->DS X s ρ o)/\(∀ l l' ρ o,trSs n c l=some l'->exs Γ l' ρ=some o->DSs X l ρ o):=by
 intro n;induction n with
 | zero=>exact⟨fun e e' ρ w h=>by (simp only [trS] at h;cases h),fun e e' ρ w h=>by (simp only [trSs] at h;cases h)⟩
 | succ n ih=>
  obtain⟨iS,iSs⟩:=ih
  refine⟨fun s s' ρ o h hv=>?_,fun l l' ρ o h hv=>?_⟩
  ·simp only [trS] at h;unfold trS1 at h;split at h
   ·exact asg_ok hX h hv
   ·exact ret_ok hX h hv
   ·-- if
    obtain⟨t',ht,h⟩:=Za.mp h
    obtain⟨a',ha,h⟩:=Za.mp h
    obtain⟨b',hb,h⟩:=Zb.mp h
    subst h;simp only [ex] at hv;obtain⟨k,hk,hv⟩:=Za.mp hv
    cases k with
    | true=>
     rw [if_pos rfl] at hv;exact DS.ifT ((zpm hX.toXE n).1 _ _ _ _ ht hk) (iSs _ _ _ _ ha hv)
    | false=>
     rw [if_neg Zx] at hv;exact DS.ifF ((zpm hX.toXE n).1 _ _ _ _ ht hk) (iSs _ _ _ _ hb hv)
   ·-- while
    obtain⟨t',ht,h⟩:=Za.mp h
    obtain⟨b',hb,h⟩:=Zb.mp h
    subst h;simp only [ex] at hv;obtain⟨m,hm⟩:=zgo hv
    exact DS.while_ hX.po (fun ρ k hk=>(zpm hX.toXE n).1 _ _ _ _ ht hk) (fun ρ o ho=>iSs _ _ _ _ hb ho) hm
   ·-- for
    obtain⟨g,hg,h⟩:=Za.mp h
    obtain⟨i,hi,h⟩:=Za.mp h
    obtain⟨b',hb,h⟩:=Zb.mp h
    subst h;simp only [ex] at hv;obtain⟨⟨l,ρ1⟩,hl,hv⟩:=Za.mp hv
    obtain⟨d1,d2⟩:=trI_ok hX hi hl
    exact DS.for_ hX.po hX.calm d1 (fun d ρ ρ' hd=>zpl hX hg hd) (fun ρ o ho=>iSs _ _ _ _ hb ho) hv (noSet d2)
   ·exact x_ok hX h hv
   ·exact zdy h hv
  ·cases l with
   | nil=>
    simp only [trSs] at h;cases h;simp only [exs] at hv;cases hv;exact DSs.nil
   | cons s l=>
    simp only [trSs] at h;obtain⟨s',hs,h⟩:=Za.mp h
    obtain⟨l2,hl,h⟩:=Zb.mp h
    subst h;simp only [exs] at hv;obtain⟨o1,h1,hv⟩:=Za.mp hv
    cases o1 with
    | nx ρ1=>exact DSs.next (iS _ _ _ _ hs h1) (iSs _ _ _ _ hl hv)
    | rt w=>cases hv;exact DSs.ret (iS _ _ _ _ hs h1)
end
end DL
namespace DL
open PySem L2 PyProof.Rows
def GFn (P:Program) (w:World) (K:PySem.W.Frag) (mg:Str->Option Value) (base:Heap) (k:Nat) (x:Str) (n:Nat) (φ:List D->Option W):Prop:=
 ∃ (a:Addr) (fd:FuncData) (ps:List Str),FnOk P w K mg base CX0 k a fd ps (spD K n φ)/\mg x=some (.ref a)/\PySem.W.keepIn K (.ref a)=true/\Binds K fd ps []
def GFr (P:Program) (w:World) (K:PySem.W.Frag) (mg:Str->Option Value) (base:Heap) (k:Nat) (x:Str) (n:Nat) (φ:List D->Option W):Prop:=
 ∃ (a:Addr) (fd:FuncData) (ps:List Str),FnOk P w K mg base (CX1 P w) k a fd ps (spR K n φ)/\mg x=some (.ref a)/\PySem.W.keepIn K (.ref a)=true/\Binds K fd ps []
section
variable {P:Program} {w:World} {K:PySem.W.Frag} {mg:Str->Option Value} {base:Heap}
theorem GFr.mono {j k:Nat} {x:Str} {n:Nat} {φ:List D->Option W} (G:GFr P w K mg base j x n φ) (h:j<=k):GFr P w K mg base k x n φ:=by
 obtain⟨a,fd,ps,F,r⟩:=G
 exact⟨a,fd,ps,F.mono h,r⟩
theorem GFn.mono {j k:Nat} {x:Str} {n:Nat} {φ:List D->Option W} (G:GFn P w K mg base j x n φ) (h:j<=k):GFn P w K mg base k x n φ:=by
 obtain⟨a,fd,ps,F,r⟩:=G
 exact⟨a,fd,ps,F.mono h,r⟩
theorem GFn.imp {k:Nat} {x:Str} {n:Nat} {φ ψ:List D->Option W} (G:GFn P w K mg base k x n φ) (h:∀ ds w,ds.length=n->ψ ds=some w->φ ds=some w):GFn P w K mg base k x n ψ:=by
 obtain⟨a,fd,ps,F,r⟩:=G
 refine⟨a,fd,ps,F.imp fun vs H Q E ⟨Fz,ds,w,h1,h2,h3,h4,h5⟩=>⟨Fz,ds,w,h1,h2,h3,h ds w h3 h4,h5⟩,r⟩
theorem zpt {N:List Str} {vs:List V} {i:Nat} {v:V} (h:vs[i]? = some v):(L2.start N vs)[i]? = some (some v):=by
 unfold L2.start;have hi:i<vs.length:=(Zm.mp h).1;rw [Z9 (by rw [Zc];exact hi),Zi,h];rfl
theorem zuh {F:Hp} {H:Hp} {ds:List D} {vs:List V} {N:List Str} (h1:Same F H) (h2:DenL K F ds vs):SR K H F F H (L2.start N vs) (ds.map (fun d=>some (.sh d))++List.replicate (N.length-ds.length) none):=by
 have hl:vs.length=ds.length:=h2.length;refine⟨h1,Same.refl _,Same.refl _,fun a o e=>.inl e,fun i d e=>?_,fun i l e=>?_,fun i j l m a e=>?_,?_⟩
 ·by_cases hi:i<ds.length
  ·rw [Z9 (by rw [Zc];exact hi),Zi] at e;cases q:ds[i]? with
   | none=>rw [q] at e;cases e
   | some d'=>
    rw [q] at e;cases e;obtain⟨v,hv,r⟩:=h2.get q
    exact⟨v,zpt hv,r⟩
  ·rw [Z0 (by rw [Zc];omega)] at e;rw [W6] at e;split at e <;> cases e
 ·by_cases hi:i<ds.length
  ·rw [Z9 (by rw [Zc];exact hi),Zi] at e;cases q:ds[i]? with
   | none=>rw [q] at e;cases e
   | some d'=>rw [q] at e;cases e
  ·rw [Z0 (by rw [Zc];omega)] at e;rw [W6] at e;split at e <;> cases e
 ·by_cases hi:i<ds.length
  ·rw [Z9 (by rw [Zc];exact hi),Zi] at e;cases q:ds[i]? with
   | none=>rw [q] at e;cases e
   | some d'=>rw [q] at e;cases e
  ·rw [Z0 (by rw [Zc];omega)] at e;rw [W6] at e;split at e <;> cases e
 ·unfold L2.start;rw [Zw,Zw,Zc,Zc,Yq,Yq,hl]
structure Deps (P:Program) (w:World) (K:PySem.W.Frag) (mg:Str->Option Value) (base:Heap) (k:Nat) (Γ:Nat->List D->Option W) (fns rzs:List (Str×Nat×Nat)) (xs:Bool):Prop where
 fns:∀ x f n,fns.lookup x=some (f,n)->GFn P w K mg base k x n (Γ f)
 rzs:∀ x f n,rzs.lookup x=some (f,n)->GFr P w K mg base k x n (Γ f)
 xf:xs=true->XFacts K mg
 blt:∀ x∈zab,mg x=none
theorem xc_of {CX:CXT} {qual:Str} {sc:Scope} {f:Addr} {N ps:List Str} {k:Nat} {fns rzs:List (Str×Nat×Nat)} {xs:Bool} {Γ:Nat->List D->Option W} {cdv:Value} {A:Around} {outer:List Env} {s:Shared} {H:Hp} {E:XK} (S:FnScope N ps sc) (hd:Deps P w K mg base k Γ fns rzs xs)
  (hr:Room k (A.deeper (envOfC qual sc s.heap.objs.size f cdv))):XC (cxOf CX P w K mg base N qual sc f cdv A outer s H E).nox ⟨N,sc,fns,rzs,xs⟩ Γ:=by
 refine⟨⟨rfl,rfl,S.nd,rfl,S.kind,fun x f n h=>?_,hd.xf,hr.units,hd.blt⟩,fun _=>rfl,PassesOwn.never,fun x f n h=>?_,rfl,rfl,rfl⟩
 ·obtain⟨a,fd,ps,G,g1,g2,g3⟩:=hd.fns x f n h
  exact⟨k,a,fd,ps,G,hr,g1,g2,g3⟩
 ·obtain⟨a,fd,ps,G,g1,g2,g3⟩:=hd.rzs x f n h
  exact⟨k,a,fd,ps,G,hr,g1,g2,g3⟩
theorem znd {x qual:Str} {st:Stmt} {f:Addr} {fd:FuncData} {N ps:List Str} {k m:Nat} {fns rzs:List (Str×Nat×Nat)} {xs:Bool} {Γ:Nat->List D->Option W} {body:Ss} (F:Fun K x qual st f fd) (S:FnScope N ps (V7 st))
  (hTr:trSs m ⟨N,V7 st,fns,rzs,xs⟩ (Gb st)=some body) (hd:Deps P w K mg base k Γ fns rzs xs) :
  FnOk P w K mg base CX0 (k+1) f fd ps (spD K ps.length (run Γ body N.length)):=by
 refine F.ok S (fun vs H Q E ⟨Fz,ds,w,h1,h2,h3,h4,h5⟩=>by rw [h2.length];exact h3) (fun cdv A outer s H vs Q E hr ⟨Fz,ds,wv,h1,h2,h3,h4,h5⟩=>?_);have hX:=xc_of (CX:=CX0) (E:=E) (outer:=outer) (H:=H) S hd hr;unfold run at h4;obtain⟨o,ho,h4⟩:=Za.mp h4
 have hS:=(trS_ok hX m).2 _ _ _ _ hTr ho;refine⟨_,hS H Fz,Fz,zuh h1 h2,?_⟩
 cases o with
 | rt w'=>
  cases h4;exact fun v H' F' r q=>h5 v H' F' r.same r.base r.sub (fun a o e=>r.new a o e) q
 | nx ρ'=>
  cases h4;exact fun σ' H' F' s' S'=>h5 _ H' F' S'.same S'.base S'.sub (fun a o e=>S'.new a o e) (RW.v Den.non_mk)
theorem gfn_of {x qual:Str} {st:Stmt} {f:Addr} {fd:FuncData} {N ps:List Str} {k m n:Nat} {fns rzs:List (Str×Nat×Nat)} {xs:Bool} {Γ:Nat->List D->Option W} {body:Ss} {φ:List D->Option W} (F:Fun K x qual st f fd) (S:FnScope N ps (V7 st)) (hB:Binds K fd ps [])
  (hm:mg x=some (.ref f)) (hTr:trSs m ⟨N,V7 st,fns,rzs,xs⟩ (Gb st)=some body) (hn:ps.length=n) (hd:Deps P w K mg base k Γ fns rzs xs)
  (hφ:∀ ds w,ds.length=n->φ ds=some w->run Γ body N.length ds=some w):GFn P w K mg base (k+1) x n φ:=by
 subst hn;exact GFn.imp ⟨f,fd,ps,znd F S hTr hd,hm,F.kp,hB⟩ hφ
theorem Fun.okR {x qual:Str} {st:Stmt} {f:Addr} {fd:FuncData} {N ps:List Str} {k:Nat} {sp:Sp} (F:Fun K x qual st f fd) (S:FnScope N ps (V7 st)) (len:∀ vs H Q E,sp vs H Q E->vs.length=ps.length)
  (hbody:∀ (cdv:Value) (A:Around) (outer:List Env) (s:Shared) (H:Hp) (vs:List V) (Q:VK) (E:XK),Room k (A.deeper (envOfC qual (V7 st) s.heap.objs.size f cdv))->sp vs H Q E ->
   ∃ t,PSs (cxOf (CX1 P w) P w K mg base N qual (V7 st) f cdv A outer s H E) (Gb st) t/\t {nx:=fun _ H'=>Q .non H',rt:=Q} (L2.start N vs) H):FnOk P w K mg base (CX1 P w) (k+1) f fd ps sp:=by
 obtain⟨oc,od,kV,doc,pm,an,cdv,ct,osl,rfl,lk,hcd⟩:=F.ex
 exact fn_of lk hcd S len fun A outer s H vs Q E hr hsp=>hbody cdv A outer s H vs Q E hr hsp
end
end DL
namespace DL
open PySem L2 PyProof.Rows
def At (K:PySem.W.Frag) (x:Str) (st:Stmt):Prop:=∃ (f:Addr) (oc:Value) (od:Option Addr) (kV doc pm:Value) (an:Option Addr) (cdv ct:Value) (osl:Array (Option Value)),
 PySem.W.nsIn K mainGlobals x=some (some (.ref f))/\K.lookup f=some ⟨oc,od,.func (PySem.W.fnOf x x (zap st) (Gb st) (V7 st) .none kV doc pm an cdv ct),osl⟩/\PySem.W.codeIn K cdv x=true/\PySem.W.keepIn K (.ref f)=true
theorem at_mk {K:PySem.W.Frag} {x:Str} {st:Stmt} {f:Addr} {oc:Value} {od:Option Addr} {kV doc pm:Value} {an:Option Addr} {cdv ct:Value} {osl:Array (Option Value)} (a:PySem.W.nsIn K mainGlobals x=some (some (.ref f)))
  (l:K.lookup f=some ⟨oc,od,.func (PySem.W.fnOf x x (zap st) (Gb st) (V7 st) .none kV doc pm an cdv ct),osl⟩) (c:PySem.W.codeIn K cdv x=true) (k:PySem.W.keepIn K (.ref f)=true):At K x st:=⟨f,oc,od,kV,doc,pm,an,cdv,ct,osl,a,l,c,k⟩
def Bnd (x:Str) (st:Stmt) (ps:List Str):Prop:=∀ (kV doc pm:Value) (an:Option Addr) (cdv ct:Value) (us:List Value),us.length=ps.length->bindArgs (PySem.W.fnOf x x (zap st) (Gb st) (V7 st) .none kV doc pm an cdv ct) ⟨us,[]⟩=pure (ps.zip us)
def Calls (P:Program) (w:World) (K:PySem.W.Frag) (mg:Str->Option Value) (base:Heap) (k:Nat) (Γ:Nat->List D->Option W) (fns:List (Str×Nat×Nat)):Prop:=∀ x f n,fns.lookup x=some (f,n)->GFn P w K mg base k x n (Γ f)
def CallsR (P:Program) (w:World) (K:PySem.W.Frag) (mg:Str->Option Value) (base:Heap) (k:Nat) (Γ:Nat->List D->Option W) (fns:List (Str×Nat×Nat)):Prop:=∀ x f n,fns.lookup x=some (f,n)->GFr P w K mg base k x n (Γ f)
section
variable {P:Program} {w:World} {K:PySem.W.Frag} {mg:Str->Option Value} {base:Heap} {Γ:Nat->List D->Option W}
theorem Calls.nil {k:Nat}:Calls P w K mg base k Γ []:=fun x f n h=>by cases h
theorem Calls.cons {j k f n:Nat} {x:Str} {l:List (Str×Nat×Nat)} (h:GFn P w K mg base j x n (Γ f)) (hj:j<=k) (r:Calls P w K mg base k Γ l):Calls P w K mg base k Γ ((x,f,n)::l):=fun y g m e=>by
 rw [Wv] at e;cases q:(y == x) with
 | true=>
  rw [q] at e;cases e;have:=eq_of_beq q
  subst this;exact h.mono hj
 | false=>rw [q] at e;exact r y g m e
theorem CallsR.nil {k:Nat}:CallsR P w K mg base k Γ []:=fun x f n h=>by cases h
theorem CallsR.cons {j k f n:Nat} {x:Str} {l:List (Str×Nat×Nat)} (h:GFr P w K mg base j x n (Γ f)) (hj:j<=k) (r:CallsR P w K mg base k Γ l):CallsR P w K mg base k Γ ((x,f,n)::l):=fun y g m e=>by
 rw [Wv] at e;cases q:(y == x) with
 | true=>
  rw [q] at e;cases e;have:=eq_of_beq q
  subst this;exact h.mono hj
 | false=>rw [q] at e;exact r y g m e
theorem Gy {h:Heap} {x:Str} {st:Stmt} {N ps:List Str} {k m n:Nat} {fns rzs:List (Str×Nat×Nat)} {xs:Bool} {body:Ss} {φ:List D->Option W} (A:At K x st) (X:K.In h) (G:h.Ns mainGlobals mg) (S:FnScope N ps (V7 st)) (B:Bnd x st ps)
  (hTr:trSs m ⟨N,V7 st,fns,rzs,xs⟩ (Gb st)=some body) (hn:ps.length=n) (hd:Deps P w K mg base k Γ fns rzs xs)
  (hφ:∀ ds w,ds.length=n->φ ds=some w->run Γ body N.length ds=some w):GFn P w K mg base (k+1) x n φ:=by
 obtain⟨f,oc,od,kV,doc,pm,an,cdv,ct,osl,a,l,c,kp⟩:=A
 have F:=zyo (st:=st) l c kp;exact gfn_of F S (F.binds B) (V4 X G a) hTr hn hd hφ
theorem law_at {h:Heap} {x p:Str} {st:Stmt} {N:List Str} {k m:Nat} {fa:Addr} {fns rzs:List (Str×Nat×Nat)} {xs:Bool} {body:Ss} (A:At K x st) (X:K.In h) (G:h.Ns mainGlobals mg) (hfa:mg x=some (.ref fa)) (S:FnScope N [p] (V7 st)) (B:Bnd x st [p])
  (hTr:trSs m ⟨N,V7 st,fns,rzs,xs⟩ (Gb st)=some body) (hc:∀ base:Heap,K.In base->base.Ns mainGlobals mg->Deps P w K mg base k Γ fns rzs xs) :
  ∃ fd:FuncData,(∀ (s:Shared) (v:Value),BindsTo s fd ⟨[v],[]⟩ [(p,v)])/\∀ base:Heap,K.In base->base.Ns mainGlobals mg->FnOk P w K mg base CX0 (k+1) fa fd [p] (spD K 1 (run Γ body N.length)):=by
 obtain⟨f,oc,od,kV,doc,pm,an,cdv,ct,osl,a,l,c,kp⟩:=A
 have e:=hfa.symm.trans (V4 X G a);cases e;have F:=zyo (st:=st) l c kp;exact⟨_,fun s v=>.of_eq (B kV doc pm an cdv ct [v] rfl),fun base hk hn=>znd F S hTr (hc base hk hn)⟩
theorem zvr {n:Nat} {φ:List D->Option W} (hφ:∀ ns:List Int,ns.length<=n->φ [.lst (ns.map D.int)]=some (.val (.bl true))) (H:Hp) (a:Addr) (ns:List Int) (hl:ns.length<=n) (hS:SqL K H a (ns.map V.int)) :
  spD K 1 φ [.ref a] H (fun v _=>v=.bl true) fun _ _ _=>False:=
 ⟨H,[.lst (ns.map D.int)],.val (.bl true),Same.refl _,DenL.cons (Den.lst_mk hS (DenL.ints ns)) DenL.nil,rfl,hφ ns hl,fun v H' F' _ _ _ _ q=>(show Den K F' (.bl true) v from q).bl⟩
theorem zwq {h:Heap} (X:K.In h) (G:h.Ns mainGlobals mg) (hz:∀ x∈zab,PySem.W.nsIn K mainGlobals x=some none):∀ x∈zab,mg x=none:=fun x hx=>PySem.W.mg_none_of X G (hz x hx)
end
section
variable {K:PySem.W.Frag} {mg:Str->Option Value}
end
end DL
namespace DL
def bin2 (f:D->D->Option W):Option D->Option D->Option W
 | some x,some y=>f x y
 | _,_=>none
def un1 (f:D->Option W):Option D->Option W
 | some x=>f x
 | _=>none
def andO:Option Bool->Option W->Option W
 | some true,y=>y
 | some false,_=>some (.val (.bl false))
 | none,_=>none
def orO:Option Bool->Option W->Option W
 | some true,_=>some (.val (.bl true))
 | some false,y=>y
 | none,_=>none
def iffO {α:Type}:Option Bool->Option α->Option α->Option α
 | some true,x,_=>x
 | some false,_,y=>y
 | none,_,_=>none
def appL (f:List D->Option W):Option (List D)->Option W
 | some l=>f l
 | none=>none
def consO:Option D->Option (List D)->Option (List D)
 | some d,some l=>some (d::l)
 | _,_=>none
def slO:Option D->Option (Option Int)->Option (Option Int)->Option W
 | some x,some i,some j=>slD x i j
 | _,_,_=>none
def cmpW (c:Cm) (x y:D):Option W:=(cmpD c x y).map fun k=>.val (.bl k)
def ixW (x y:D):Option W:=(ixD x y).map W.val
def negW:D->Option W
 | .int i=>some (.val (.int (-i)))
 | _=>none
def notW:Option Bool->Option W
 | some k=>some (.val (.bl (!k)))
 | none=>none
def tupW (ds:List D):Option W:=if ds.length<=PySem.sizeLine then some (.val (.tup ds)) else none
def lstW (ds:List D):Option W:=if ds.length<=PySem.sizeLine then some (.new ds) else none
def isiW (t:Ty) (d:D):Option W:=(zoj t d).map fun k=>.val (.bl k)
def isxW (ys:List PySem.Str) (d:D):Option W:=(isX ys d).map fun k=>.val (.bl k)
theorem isiW_i {t:Ty} {i:Int}:isiW t (.int i)=some (.val (.bl (isTy t (.int i)))):=rfl
theorem isiW_b {t:Ty} {i:Bool}:isiW t (.bl i)=some (.val (.bl (isTy t (.bl i)))):=rfl
theorem isiW_t {t:Ty} {l:List D}:isiW t (.tup l)=some (.val (.bl (isTy t (.tup l)))):=rfl
theorem isiW_l {t:Ty} {l:List D}:isiW t (.lst l)=some (.val (.bl (isTy t (.lst l)))):=rfl
theorem isiW_n {t:Ty}:isiW t .non=some (.val (.bl (isTy t .non))):=rfl
theorem isxW_n {ys:List PySem.Str}:isxW ys .non=some (.val (.bl false)):=rfl
section
variable {Γ:Nat->List D->Option W} {ρ:Rho}
def evd (Γ:Nat->List D->Option W) (e:E) (ρ:Rho):Option D:=(ev Γ e ρ).map W.d
def evb (Γ:Nat->List D->Option W) (e:E) (ρ:Rho):Option Bool:=(evd Γ e ρ).bind zav
theorem ev_var {i:Nat}:ev Γ (.var i) ρ=(varD ρ i).map W.val:=by simp only [ev]
theorem ev_int {i:Int}:ev Γ (.int i) ρ=some (.val (.int i)):=by simp only [ev]
theorem ev_bl {i:Bool}:ev Γ (.bl i) ρ=some (.val (.bl i)):=by simp only [ev]
theorem ev_non:ev Γ .non ρ=some (.val .non):=by simp only [ev]
theorem ev_bin {o:Op} {a b:E}:ev Γ (.bin o a b) ρ=bin2 (opW o) (evd Γ a ρ) (evd Γ b ρ):=by
 simp only [ev,evd];cases (ev Γ a ρ) <;> cases (ev Γ b ρ) <;> rfl
theorem ev_neg {a:E}:ev Γ (.neg a) ρ=un1 negW (evd Γ a ρ):=by
 simp only [ev,evd];cases (ev Γ a ρ) with
 | none=>rfl
 | some w=>simp only [Wk,Yy,un1];cases w.d <;> rfl
theorem ev_cmp {o:Cm} {a b:E}:ev Γ (.cmp o a b) ρ=bin2 (cmpW o) (evd Γ a ρ) (evd Γ b ρ):=by
 simp only [ev,evd];cases (ev Γ a ρ) <;> cases (ev Γ b ρ) <;> rfl
theorem ev_or {a b:E}:ev Γ (.or a b) ρ=orO (evb Γ a ρ) (ev Γ b ρ):=by
 simp only [ev,evd,evb];cases (Option.map W.d (ev Γ a ρ)).bind zav with
 | none=>rfl
 | some k=>cases k <;> rfl
theorem ev_tup {l:Es}:ev Γ (.tup l) ρ=appL tupW (evs Γ l ρ):=by
 simp only [ev];cases (evs Γ l ρ) <;> rfl
theorem ev_lst {l:Es}:ev Γ (.lst l) ρ=appL lstW (evs Γ l ρ):=by
 simp only [ev];cases (evs Γ l ρ) <;> rfl
theorem ev_ix {a b:E}:ev Γ (.ix a b) ρ=bin2 ixW (evd Γ a ρ) (evd Γ b ρ):=by
 simp only [ev,evd];cases (ev Γ a ρ) <;> cases (ev Γ b ρ) <;> rfl
theorem ev_sl {a:E} {lo hi:EO}:ev Γ (.sl a lo hi) ρ=slO (evd Γ a ρ) (evo Γ lo ρ) (evo Γ hi ρ):=by
 simp only [ev,evd];cases (ev Γ a ρ) <;> cases (evo Γ lo ρ) <;> cases (evo Γ hi ρ) <;> rfl
theorem yct {f:Nat} {l:Es}:ev Γ (.call f l) ρ=appL (Γ f) (evs Γ l ρ):=by
 simp only [ev];cases (evs Γ l ρ) <;> rfl
theorem ev_idx {a b:E}:ev Γ (.idx a b) ρ=bin2 idxW (evd Γ a ρ) (evd Γ b ρ):=by
 simp only [ev,evd];cases (ev Γ a ρ) <;> cases (ev Γ b ρ) <;> rfl
theorem ev_bi {f:Bi} {l:Es}:ev Γ (.bi f l) ρ=appL (biW f) (evs Γ l ρ):=by
 simp only [ev];cases (evs Γ l ρ) <;> rfl
theorem zru:evs Γ .nil ρ=some []:=by simp only [evs]
theorem zne {e:E} {l:Es}:evs Γ (.cons e l) ρ=consO (evd Γ e ρ) (evs Γ l ρ):=by
 simp only [evs,evd];cases (ev Γ e ρ) <;> cases (evs Γ l ρ) <;> rfl
theorem ycq:evo Γ .non ρ=some none:=by simp only [evo]
theorem ycp {e:E}:evo Γ (.som e) ρ=((evd Γ e ρ).bind dInt).map some:=by simp only [evo,evd]
end
def zzr (Γ:Nat->List D->Option W):Option Out->Ss->Option Out
 | some (.nx ρ),l=>exs Γ l ρ
 | some (.rt w),_=>some (.rt w)
 | none,_=>none
def asgO (ρ:RhoS) (i:Nat):Option W->Option Out
 | some w=>(setR (after w ρ) i w.b).map Out.nx
 | none=>none
def unpO (ρ:RhoS) (is:List Nat):Option W->Option Out
 | some w=>(Be (.tup is) w.d (after w ρ)).map Out.nx
 | none=>none
def parO (ρ:RhoS) (i j:Nat):Option D->Option D->Option Out
 | some x,some y=>if lf x=true/\lf y=true/\i≠j/\i<ρ.length/\j<ρ.length then some (.nx ((ρ.set i (some (.sh x))).set j (some (.sh y)))) else none
 | _,_=>none
def retO:Option W->Option Out
 | some w=>some (.rt w)
 | none=>none
def yar:Option (Option B)->Option Out
 | some (some (.ow l))=>some (.rt (.new l))
 | some (some (.sh d))=>some (.rt (.val d))
 | _=>none
def forO (bt:D->RhoS->Option RhoS) (fb:RhoS->Option Out):Option (List D×RhoS)->Option Out
 | some (l,ρ)=>forN bt fb l ρ
 | none=>none
def outO:Option Out->Option W
 | some (.rt w)=>some w
 | some (.nx _)=>some (.val .non)
 | none=>none
def seqO (ρ:RhoS):Option W->Option (List D×RhoS)
 | some w=>match w.d with
  | .lst l=>some (l,after w ρ)
  | .tup l=>some (l,after w ρ)
  | _=>none
 | none=>none
def rng1O (ρ:RhoS):Option D->Option (List D×RhoS)
 | some (.int n)=>if -(2^62)<=n/\n<2^62 then some (Gx 0 n.toNat,ρ) else none
 | _=>none
def rng2O (ρ:RhoS):Option D->Option D->Option (List D×RhoS)
 | some (.int m),some (.int n)=>if -(2^62)<=m/\m<2^62 /\ -(2^62)<=n/\n<2^62 then some (Gx m (n-m).toNat,ρ) else none
 | _,_=>none
def enumO (ρ:RhoS):Option D->Option (List D×RhoS)
 | some (.lst l)=>some (zfk l,frz ρ)
 | _=>none
section
variable {Γ:Nat->List D->Option W} {ρ:RhoS}
theorem ycl:exs Γ .nil ρ=some (.nx ρ):=by simp only [exs]
theorem zwa {s:S} {l:Ss}:exs Γ (.cons s l) ρ=zzr Γ (ex Γ s ρ) l:=by
 simp only [exs];cases ex Γ s ρ with
 | none=>rfl
 | some o=>cases o <;> rfl
theorem ex_asg {i:Nat} {e:E}:ex Γ (.asg i e) ρ=asgO ρ i (ev Γ e (view ρ)):=by
 simp only [ex];cases ev Γ e (view ρ) <;> rfl
theorem ex_par {i j:Nat} {a b:E}:ex Γ (.par i j a b) ρ=parO ρ i j (evd Γ a (view ρ)) (evd Γ b (view ρ)):=by
 simp only [ex,evd];cases ev Γ a (view ρ) <;> cases ev Γ b (view ρ) <;> rfl
theorem ex_ret {e:E}:ex Γ (.ret e) ρ=retO (ev Γ e (view ρ)):=by
 simp only [ex];cases ev Γ e (view ρ) <;> rfl
theorem ycn {i:Nat}:ex Γ (.retV i) ρ=yar ρ[i]?:=by
 simp only [ex];cases ρ[i]? with
 | none=>rfl
 | some o=>cases o with
  | none=>rfl
  | some b=>cases b <;> rfl
theorem ex_iff {c:E} {a b:Ss}:ex Γ (.iff c a b) ρ=iffO (evb Γ c (view ρ)) (exs Γ a ρ) (exs Γ b ρ):=by
 simp only [ex,evB,evb,evd];cases (Option.map W.d (ev Γ c (view ρ))).bind zav with
 | none=>rfl
 | some k=>cases k <;> rfl
theorem ex_whl {c:E} {b:Ss}:ex Γ (.whl c b) ρ=zeg (evB Γ c) (exs Γ b) ρ:=by simp only [ex]
theorem ex_frr {t:Tg} {it:It'} {b:Ss}:ex Γ (.frr t it b) ρ=forO (Be t) (exs Γ b) (evI Γ it ρ):=by
 simp only [ex];cases evI Γ it ρ <;> rfl
theorem evB_eq {c:E}:evB Γ c ρ=evb Γ c (view ρ):=rfl
theorem ycx {e:E}:evI Γ (.seq e) ρ=seqO ρ (ev Γ e (view ρ)):=by
 simp only [evI];cases ev Γ e (view ρ) <;> rfl
theorem zwc {i:Nat}:evI Γ (.seqV i) ρ=seqB ρ ρ[i]?:=by simp only [evI]
theorem seqB_l {l:List D}:seqB ρ (some (some (.sh (.lst l))))=some (l,ρ):=rfl
theorem seqB_t {l:List D}:seqB ρ (some (some (.sh (.tup l))))=some (l,ρ):=rfl
theorem seqB_o {l:List D}:seqB ρ (some (some (.ow l)))=some (l,frz ρ):=rfl
theorem zom {e:E}:evI Γ (.range1 e) ρ=rng1O ρ (evd Γ e (view ρ)):=by
 simp only [evI,evd];cases ev Γ e (view ρ) with
 | none=>rfl
 | some w=>simp only [Wk,Yy];cases w.d <;> rfl
theorem run_eq {b:Ss} {n:Nat} {ds:List D}:run Γ b n ds=outO (exs Γ b (ds.map (fun d=>some (.sh d))++List.replicate (n-ds.length) none)):=by
 unfold run;cases exs Γ b (ds.map (fun d=>some (.sh d))++List.replicate (n-ds.length) none) with
 | none=>rfl
 | some o=>cases o <;> rfl
end
section
variable {Γ:Nat->List D->Option W} {ρ:RhoS}
theorem bin2_s {f:D->D->Option W} {x y:D}:bin2 f (some x) (some y)=f x y:=rfl
theorem un1_s {f:D->Option W} {x:D}:un1 f (some x)=f x:=rfl
theorem andO_t {y:Option W}:andO (some true) y=y:=rfl
theorem andO_f {y:Option W}:andO (some false) y=some (.val (.bl false)):=rfl
theorem orO_t {y:Option W}:orO (some true) y=some (.val (.bl true)):=rfl
theorem orO_f {y:Option W}:orO (some false) y=y:=rfl
theorem iffO_t {α:Type} {x y:Option α}:iffO (some true) x y=x:=rfl
theorem iffO_f {α:Type} {x y:Option α}:iffO (some false) x y=y:=rfl
theorem appL_s {f:List D->Option W} {l:List D}:appL f (some l)=f l:=rfl
theorem ydb {d:D} {l:List D}:consO (some d) (some l)=some (d::l):=rfl
theorem slO_s {x:D} {i j:Option Int}:slO (some x) (some i) (some j)=slD x i j:=rfl
theorem notW_s {k:Bool}:notW (some k)=some (.val (.bl (!k))):=rfl
theorem zud {l:Ss}:zzr Γ (some (.nx ρ)) l=exs Γ l ρ:=rfl
theorem zuc {l:Ss} {w:W}:zzr Γ (some (.rt w)) l=some (.rt w):=rfl
theorem asgO_s {i:Nat} {w:W}:asgO ρ i (some w)=(setR (after w ρ) i w.b).map Out.nx:=rfl
theorem unpO_s {is:List Nat} {w:W}:unpO ρ is (some w)=(Be (.tup is) w.d (after w ρ)).map Out.nx:=rfl
theorem parO_s {i j:Nat} {x y:D}:parO ρ i j (some x) (some y)=if lf x=true/\lf y=true/\i≠j/\i<ρ.length/\j<ρ.length then some (.nx ((ρ.set i (some (.sh x))).set j (some (.sh y)))) else none:=rfl
theorem retO_s {w:W}:retO (some w)=some (.rt w):=rfl
theorem yaq {l:List D}:yar (some (some (.ow l)))=some (.rt (.new l)):=rfl
theorem yap {d:D}:yar (some (some (.sh d)))=some (.rt (.val d)):=rfl
theorem forO_s {bt:D->RhoS->Option RhoS} {fb:RhoS->Option Out} {l:List D}:forO bt fb (some (l,ρ))=forN bt fb l ρ:=rfl
theorem ybf {w:W}:outO (some (.rt w))=some w:=rfl
theorem ybg:outO (some (.nx ρ))=some (.val .non):=rfl
theorem yai {l:List D}:seqO ρ (some (.new l))=some (l,after (.new l) ρ):=rfl
theorem yah {l:List D}:seqO ρ (some (.val (.lst l)))=some (l,after (.val (.lst l)) ρ):=rfl
theorem yag {l:List D}:seqO ρ (some (.val (.tup l)))=some (l,after (.val (.tup l)) ρ):=rfl
theorem ycy {l:List D}:enumO ρ (some (.lst l))=some (zfk l,frz ρ):=rfl
theorem yam {n:Int}:rng1O ρ (some (.int n))=if -(2^62)<=n/\n<2^62 then some (Gx 0 n.toNat,ρ) else none:=rfl
theorem yal {m n:Int}:rng2O ρ (some (.int m)) (some (.int n))=if -(2^62)<=m/\m<2^62 /\ -(2^62)<=n/\n<2^62 then some (Gx m (n-m).toNat,ρ) else none:=rfl
theorem varD_0 {o:Option D} {r:Rho}:varD (o::r) 0=o:=by cases o <;> rfl
theorem varD_s {o:Option D} {r:Rho} {i:Nat}:varD (o::r) (i+1)=varD r i:=rfl
theorem zto:view []=[]:=rfl
theorem zpb {o:Option B} {r:RhoS}:view (o::r)=o.map B.d::view r:=rfl
theorem yec {i:Int}:after (.val (.int i)) ρ=ρ:=rfl
theorem yed {i:Bool}:after (.val (.bl i)) ρ=ρ:=rfl
theorem yeb:after (.val .non) ρ=ρ:=rfl
theorem Wd_v {d:D}:(W.val d).d=d:=rfl
theorem Wd_n {l:List D}:(W.new l).d=.lst l:=rfl
theorem Wb_v {d:D}:(W.val d).b=.sh d:=rfl
theorem Wb_n {l:List D}:(W.new l).b=.ow l:=rfl
theorem Bd_s {d:D}:(B.sh d).d=d:=rfl
theorem Bd_o {l:List D}:(B.ow l).d=.lst l:=rfl
theorem ycz {k:Bool}:zav (.bl k)=some k:=rfl
theorem zza {k:Int}:dInt (.int k)=some k:=rfl
theorem zxo {o:Option B} {b:B}:setR (o::ρ) 0 b=some (some b::ρ):=rfl
theorem zxn {o:Option B} {i:Nat} {b:B}:setR (o::ρ) (i+1) b=(setR ρ i b).map (o :: ·):=by
 unfold setR;by_cases h:i<ρ.length
 ·rw [if_pos h,if_pos (by rw [Zu];omega)];rfl
 ·rw [if_neg h,if_neg (by rw [Zu];omega)];rfl
theorem op_add {a b:Int}:opW .add (.int a) (.int b)=some (.val (.int (a+b))):=rfl
theorem op_sub {a b:Int}:opW .sub (.int a) (.int b)=some (.val (.int (a-b))):=rfl
theorem op_mul {a b:Int}:opW .mul (.int a) (.int b)=if Gp a b=true then some (.val (.int (a*b))) else none:=rfl
theorem op_fdiv {a b:Int}:opW .fdiv (.int a) (.int b)=if zaf b=true then some (.val (.int (a.fdiv b))) else none:=rfl
theorem op_mod {a b:Int}:opW .mod (.int a) (.int b)=if b=0 then none else some (.val (.int (a.fmod b))):=rfl
theorem op_pow {a b:Int}:opW .pow (.int a) (.int b)=if zks a b=true then some (.val (.int (a^b.toNat))) else none:=rfl
end
theorem sl0:(0<=PySem.sizeLine)=True:=eq_true (by decide)
theorem sl1:(1<=PySem.sizeLine)=True:=eq_true (by decide)
theorem sl2:(2<=PySem.sizeLine)=True:=eq_true (by decide)
theorem sl3:(3<=PySem.sizeLine)=True:=eq_true (by decide)
theorem sl4:(4<=PySem.sizeLine)=True:=eq_true (by decide)
theorem sl6:(6<=PySem.sizeLine)=True:=eq_true (by decide)
theorem at1_0 {a:D}:L2.atI [a] 0=some a:=rfl
theorem at2_0 {a b:D}:L2.atI [a,b] 0=some a:=rfl
theorem at2_1 {a b:D}:L2.atI [a,b] 1=some b:=rfl
theorem at3_0 {a b c:D}:L2.atI [a,b,c] 0=some a:=rfl
theorem at3_1 {a b c:D}:L2.atI [a,b,c] 1=some b:=rfl
theorem at3_2 {a b c:D}:L2.atI [a,b,c] 2=some c:=rfl
theorem at4_0 {a b c d:D}:L2.atI [a,b,c,d] 0=some a:=rfl
theorem at4_1 {a b c d:D}:L2.atI [a,b,c,d] 1=some b:=rfl
theorem at4_2 {a b c d:D}:L2.atI [a,b,c,d] 2=some c:=rfl
theorem at4_3 {a b c d:D}:L2.atI [a,b,c,d] 3=some d:=rfl
theorem at5_0 {a b c d e:D}:L2.atI [a,b,c,d,e] 0=some a:=rfl
theorem at5_1 {a b c d e:D}:L2.atI [a,b,c,d,e] 1=some b:=rfl
theorem at5_2 {a b c d e:D}:L2.atI [a,b,c,d,e] 2=some c:=rfl
theorem at5_3 {a b c d e:D}:L2.atI [a,b,c,d,e] 3=some d:=rfl
theorem at5_4 {a b c d e:D}:L2.atI [a,b,c,d,e] 4=some e:=rfl
theorem at6_0 {a b c d e f:D}:L2.atI [a,b,c,d,e,f] 0=some a:=rfl
theorem at6_1 {a b c d e f:D}:L2.atI [a,b,c,d,e,f] 1=some b:=rfl
theorem at6_2 {a b c d e f:D}:L2.atI [a,b,c,d,e,f] 2=some c:=rfl
theorem at6_3 {a b c d e f:D}:L2.atI [a,b,c,d,e,f] 3=some d:=rfl
theorem at6_4 {a b c d e f:D}:L2.atI [a,b,c,d,e,f] 4=some e:=rfl
theorem at6_5 {a b c d e f:D}:L2.atI [a,b,c,d,e,f] 5=some f:=rfl
theorem B9 {a b:Int} (h:0<b):a.fmod b=a%b:=Qi _ (by omega)
theorem zhv {a b:Int} (h:0<b):a.fdiv b=a/b:=Kq _ (by omega)
theorem B5 {b:Int} (h0:0<b) (h1:b<1000000000000000000000000000000000000000000000000000000000000000000000000000000000000000000000000000000000000000000000000000000000000000000000000000000):zaf b=true:=by
 unfold zaf;rw [Zl];refine⟨decide_eq_true (by omega),decide_eq_true ?_⟩
 have:(1000000000000000000000000000000000000000000000000000000000000000000000000000000000000000000000000000000000000000000000000000000000000000000000000000000:Nat)<=2^9000:=by decide +kernel
 omega
theorem Go {a b:Int} (h0 : -1000000000000000000000000000000000000000000000000000000000000000000000000000000000000000000000000000000000000000000000000000000000000000000000000000000<a) (h1:a<1000000000000000000000000000000000000000000000000000000000000000000000000000000000000000000000000000000000000000000000000000000000000000000000000000000) (h2 : -1000000000000000000000000000000000000000000000000000000000000000000000000000000000000000000000000000000000000000000000000000000000000000000000000000000<b) (h3:b<1000000000000000000000000000000000000000000000000000000000000000000000000000000000000000000000000000000000000000000000000000000000000000000000000000000):Gp a b=true:=by
 unfold Gp;rw [Zl];have:(1000000000000000000000000000000000000000000000000000000000000000000000000000000000000000000000000000000000000000000000000000000000000000000000000000000:Nat)<=2^16000:=by decide +kernel
 exact⟨decide_eq_true (by omega),decide_eq_true (by omega)⟩
theorem op_p9:opW .pow (.int 10) (.int 9)=some (.val (.int 1000000000)):=by
 have h:zks 10 9=true:=by decide +kernel
 have e:((10:Int)^Int.toNat 9)=1000000000:=by decide +kernel
 rw [op_pow,if_pos h,e]
theorem op_p18:opW .pow (.int 10) (.int 18)=some (.val (.int 1000000000000000000)):=by
 have h:zks 10 18=true:=by decide +kernel
 have e:((10:Int)^Int.toNat 18)=1000000000000000000:=by decide +kernel
 rw [op_pow,if_pos h,e]
theorem op_p60:opW .pow (.int 10) (.int 60)=some (.val (.int 1000000000000000000000000000000000000000000000000000000000000)):=by
 have h:zks 10 60=true:=by decide +kernel
 have e:((10:Int)^Int.toNat 60)=1000000000000000000000000000000000000000000000000000000000000:=by decide +kernel
 rw [op_pow,if_pos h,e]
theorem cs0:((0:Nat):Int)=0:=rfl
theorem cs1:((1:Nat):Int)=1:=rfl
theorem cs2:((2:Nat):Int)=2:=rfl
theorem cs3:((3:Nat):Int)=3:=rfl
theorem cs4:((4:Nat):Int)=4:=rfl
theorem cs5:((5:Nat):Int)=5:=rfl
theorem cs6:((6:Nat):Int)=6:=rfl
theorem cs7:((7:Nat):Int)=7:=rfl
theorem cs8:((8:Nat):Int)=8:=rfl
theorem cs9:((9:Nat):Int)=9:=rfl
theorem cs10:((10:Nat):Int)=10:=rfl
theorem cs11:((11:Nat):Int)=11:=rfl
theorem cs12:((12:Nat):Int)=12:=rfl
theorem ixD_t {l:List D} {i:Int}:ixD (.tup l) (.int i)=L2.atI l i:=rfl
theorem ixD_l {l:List D} {i:Int}:ixD (.lst l) (.int i)=L2.atI l i:=rfl
theorem slD_l {l:List D} {i j:Option Int}:slD (.lst l) i j=some (.new (cutD l i j)):=rfl
theorem zww {i:Nat} {d:D} {ρ:RhoS}:Be (.name i) d ρ=setR ρ i (.sh d):=rfl
theorem znm {is:List Nat} {ds:List D} {ρ:RhoS}:Be (.tup is) (.tup ds) ρ=zca is ds ρ:=rfl
def appO (ρ:RhoS) (i:Nat):Option (Option B)->Option W->Option Out
 | some (some (.ow l)),some (.val d)=>if lf d=true/\l.length<PySem.sizeLine then some (.nx (ρ.set i (some (.ow (l++[d]))))) else none
 | _,_=>none
def popO (ρ:RhoS) (i:Nat):Option (Option B)->Option Out
 | some (some (.ow l))=>if l=[] then none else some (.nx (ρ.set i (some (.ow l.dropLast))))
 | _=>none
def clrO (ρ:RhoS) (i:Nat):Option (Option B)->Option Out
 | some (some (.ow _))=>some (.nx (ρ.set i (some (.ow []))))
 | _=>none
def zob (ρ:RhoS) (i:Nat):Option (Option B)->Option W->Option D->Option Out
 | some (some (.ow l)),some (.val d),some (.int j)=>if lf d=true then (L2.ixN l.length j).map fun n=>.nx (ρ.set i (some (.ow (l.set n d)))) else none
 | _,_,_=>none
section
variable {Γ:Nat->List D->Option W} {ρ:RhoS}
theorem ex_app {i:Nat} {e:E}:ex Γ (.app i e) ρ=appO ρ i ρ[i]? (ev Γ e (view ρ)):=by
 simp only [ex];cases ev Γ e (view ρ) with
 | none=>
  rw [Jp];unfold appO;cases ρ[i]? with
  | none=>rfl
  | some o=>cases o with
   | none=>rfl
   | some b=>cases b <;> rfl
 | some w=>
  rw [Yy];unfold appO;cases ρ[i]? with
  | none=>rfl
  | some o=>cases o with
   | none=>rfl
   | some b=>cases b <;> cases w <;> rfl
theorem ycm {i:Nat} {k e:E}:ex Γ (.seti i k e) ρ=zob ρ i ρ[i]? (ev Γ e (view ρ)) (evd Γ k (view ρ)):=by
 simp only [ex,evd];cases ev Γ e (view ρ) with
 | none=>
  rw [Jp];unfold zob;cases ρ[i]? with
  | none=>rfl
  | some o=>cases o with
   | none=>rfl
   | some b=>cases b <;> rfl
 | some w=>
  rw [Yy];cases ev Γ k (view ρ) with
  | none=>
   unfold zob;cases ρ[i]? with
   | none=>rfl
   | some o=>cases o with
    | none=>rfl
    | some b=>cases b <;> cases w <;> rfl
  | some u=>
   simp only [Wk,Yy];cases u.d with
   | int j=>
    unfold zob;cases ρ[i]? with
    | none=>rfl
    | some o=>cases o with
     | none=>rfl
     | some b=>cases b <;> cases w <;> rfl
   | _=>
    unfold zob;cases ρ[i]? with
    | none=>rfl
    | some o=>cases o with
     | none=>rfl
     | some b=>cases b <;> cases w <;> rfl
theorem appO_s {i:Nat} {l:List D} {d:D}:appO ρ i (some (some (.ow l))) (some (.val d))=if lf d=true/\l.length<PySem.sizeLine then some (.nx (ρ.set i (some (.ow (l++[d]))))) else none:=rfl
theorem popO_s {i:Nat} {l:List D}:popO ρ i (some (some (.ow l)))=if l=[] then none else some (.nx (ρ.set i (some (.ow l.dropLast)))):=rfl
theorem clrO_s {i:Nat} {l:List D}:clrO ρ i (some (some (.ow l)))=some (.nx (ρ.set i (some (.ow [])))):=rfl
theorem yaf {i:Nat} {l:List D} {d:D} {j:Int}:zob ρ i (some (some (.ow l))) (some (.val d)) (some (.int j))=if lf d=true then (L2.ixN l.length j).map fun n=>.nx (ρ.set i (some (.ow (l.set n d)))) else none:=rfl
end
section
variable {Γ:Nat->List D->Option W} {ρ:Rho}
theorem ev_fm {f:Fm} {l:Es}:ev Γ (.fm f l) ρ=appL (fmW f) (evs Γ l ρ):=by
 simp only [ev];cases (evs Γ l ρ) <;> rfl
def yaa (Γ:Nat->List D->Option W) (elt:E) (t:Tg) (nt:Nat) (fr:List Nat) (c:EO) (ρ:Rho) (d:D):Option (Option D):=
 (By t d (blkR nt fr ρ)).bind fun ρd=>(evc Γ c ρd).bind fun k=>if k=true then ((ev Γ elt ρd).map W.d).map some else some none
theorem ycs {elt:E} {t:Tg} {it:It'} {nt:Nat} {fr:List Nat} {c:EO}:ev Γ (.comp elt t it nt fr c) ρ=(evW Γ it ρ).bind fun items=>if items.length<=PySem.sizeLine/\tgOk nt t=true then (zaw (yaa Γ elt t nt fr c ρ) items).map W.new else none:=by
 simp only [ev];rfl
theorem ycu {e:E}:evW Γ (.seq e) ρ=(evd Γ e ρ).bind seqD:=by simp only [evW,evd]
theorem zwb {i:Nat}:evW Γ (.seqV i) ρ=(varD ρ i).bind seqD:=by simp only [evW]
theorem zgv {a:E}:evW Γ (.range1 a) ρ=((evd Γ a ρ).bind dInt).bind fun n=>if -(2^62)<=n/\n<2^62 then some (Gx 0 n.toNat) else none:=by simp only [evW,evd]
theorem ycv {e:E}:evW Γ (.rev e) ρ=((evd Γ e ρ).bind lstD).map List.reverse:=by simp only [evW,evd]
theorem ycr:evc Γ .non ρ=some true:=by simp only [evc]
theorem zjv {α:Type} {f:D->Option (Option D)} {g:α->D} {h:α->D}:∀ {l:List α},(∀ x∈l,f (g x)=some (some (h x)))->zaw f (l.map g)=some (l.map h)
 | [],_=>rfl
 | x::l,hl=>by
  rw [Yk,Yk];unfold zaw;rw [hl x (.head _)];simp only
  rw [zjv fun y hy=>hl y (.tail _ hy)];rfl
theorem zaq {α:Type} {elt:E} {t:Tg} {it:It'} {nt:Nat} {fr:List Nat} {c:EO} {l:List α} {g h:α->D} (hI:evW Γ it ρ=some (l.map g)) (hz:l.length<=PySem.sizeLine) (ht:tgOk nt t=true) (hs:∀ x∈l,yaa Γ elt t nt fr c ρ (g x)=some (some (h x))) :
  ev Γ (.comp elt t it nt fr c) ρ=some (.new (l.map h)):=by
 rw [ycs,hI,Yy,if_pos ⟨by rw [Zc];exact hz,ht⟩,zjv hs];rfl
end
theorem zsr {i:Nat} {d:D} {ρ:Rho}:By (.name i) d ρ=setE ρ i d:=rfl
theorem zsq {is:List Nat} {ds:List D} {ρ:Rho}:By (.tup is) (.tup ds) ρ=zac is ds ρ:=rfl
theorem setE_0 {o:Option D} {d:D} {ρ:Rho}:setE (o::ρ) 0 d=some (some d::ρ):=rfl
theorem setE_s {o:Option D} {i:Nat} {d:D} {ρ:Rho}:setE (o::ρ) (i+1) d=(setE ρ i d).map (o :: ·):=by
 unfold setE;by_cases h:i<ρ.length
 ·rw [if_pos h,if_pos (by rw [Zu];omega)];rfl
 ·rw [if_neg h,if_neg (by rw [Zu];omega)];rfl
end DL
namespace DL
section
theorem V8 {α β:Type} {o o':Option α} {f f':α->Option β} {y:β} (h1:∀ x,o=some x->o'=some x) (h2:∀ x y,f x=some y->f' x=some y) (h:o.bind f=some y):o'.bind f'=some y:=by
 obtain⟨x,e1,e2⟩:=Za.mp h
 rw [h1 x e1,Yy];exact h2 x y e2
theorem Gi {α β:Type} {o o':Option α} {f:α->β} {y:β} (h1:∀ x,o=some x->o'=some x) (h:o.map f=some y):o'.map f=some y:=by
 obtain⟨x,e1,e2⟩:=Zb.mp h
 rw [h1 x e1,Wk,e2]
theorem zgu {α:Type} {c:Prop} [Decidable c] {a b a' b':Option α} {y:α} (h1:a=some y->a'=some y) (h2:b=some y->b'=some y) (h:(if c then a else b)=some y):(if c then a' else b')=some y:=by
 by_cases q:c
 ·rw [if_pos q] at h |-;exact h1 h
 ·rw [if_neg q] at h |-;exact h2 h
theorem zic {f f':D->Option (Option D)} (h:∀ d y,f d=some y->f' d=some y):∀ {l:List D} {r:List D},zaw f l=some r->zaw f' l=some r
 | [],_,q=>q
 | d::l,r,q=>by
  unfold zaw at q |-;cases e:f d with
  | none=>rw [e] at q;cases q
  | some o=>
   rw [e] at q;rw [h d o e];cases o with
   | none=>exact zic h q
   | some x=>exact Gi (fun r=>zic h) q
variable {Γ Γ':Nat->List D->Option W}
mutual
theorem Gu (h:∀ f ds w,Γ f ds=some w->Γ' f ds=some w):∀ (e:E) (ρ:Rho) (w:W),ev Γ e ρ=some w->ev Γ' e ρ=some w
 | .var i,ρ,w,q=>by simp only [ev] at q |-;exact q
 | .int i,ρ,w,q=>by simp only [ev] at q |-;exact q
 | .bl b,ρ,w,q=>by simp only [ev] at q |-;exact q
 | .non,ρ,w,q=>by simp only [ev] at q |-;exact q
 | .bin o a b,ρ,w,q=>by
  simp only [ev] at q |-;exact V8 (fun x=>Gi (Gu h a ρ)) (fun x y=>V8 (fun x=>Gi (Gu h b ρ)) fun _ _ z=>z) q
 | .neg a,ρ,w,q=>by
  simp only [ev] at q |-;exact Gi (fun x=>V8 (fun x=>Gi (Gu h a ρ)) fun _ _ z=>z) q
 | .cmp c a b,ρ,w,q=>by
  simp only [ev] at q |-;exact V8 (fun x=>Gi (Gu h a ρ)) (fun x y=>V8 (fun x=>Gi (Gu h b ρ)) fun _ _ z=>z) q
 | .and a b,ρ,w,q=>by
  simp only [ev] at q |-;exact V8 (fun x=>V8 (fun x=>Gi (Gu h a ρ)) fun _ _ z=>z) (fun x y=>zgu (Gu h b ρ y) fun z=>z) q
 | .or a b,ρ,w,q=>by
  simp only [ev] at q |-;exact V8 (fun x=>V8 (fun x=>Gi (Gu h a ρ)) fun _ _ z=>z) (fun x y=>zgu (fun z=>z) (Gu h b ρ y)) q
 | .not a,ρ,w,q=>by
  simp only [ev] at q |-;exact Gi (fun x=>V8 (fun x=>Gi (Gu h a ρ)) fun _ _ z=>z) q
 | .ife c a b,ρ,w,q=>by
  simp only [ev] at q |-;exact V8 (fun x=>V8 (fun x=>Gi (Gu h c ρ)) fun _ _ z=>z) (fun x y=>zgu (Gu h a ρ y) (Gu h b ρ y)) q
 | .tup l,ρ,w,q=>by
  simp only [ev] at q |-;exact V8 (evs_le h l ρ) (fun _ _ z=>z) q
 | .lst l,ρ,w,q=>by
  simp only [ev] at q |-;exact V8 (evs_le h l ρ) (fun _ _ z=>z) q
 | .ix a b,ρ,w,q=>by
  simp only [ev] at q |-;exact V8 (fun x=>Gi (Gu h a ρ)) (fun x y=>V8 (fun x=>Gi (Gu h b ρ)) fun _ _ z=>z) q
 | .sl a lo hi,ρ,w,q=>by
  simp only [ev] at q |-;exact V8 (fun x=>Gi (Gu h a ρ)) (fun x y=>V8 (evo_le h lo ρ) fun _ _=>V8 (evo_le h hi ρ) fun _ _ z=>z) q
 | .call f l,ρ,w,q=>by
  simp only [ev] at q |-;exact V8 (evs_le h l ρ) (fun ds y=>h f ds y) q
 | .bi f l,ρ,w,q=>by
  simp only [ev] at q |-;exact V8 (evs_le h l ρ) (fun _ _ z=>z) q
 | .isi a t,ρ,w,q=>by
  simp only [ev] at q |-;exact V8 (fun x=>Gi (Gu h a ρ)) (fun _ _ z=>z) q
 | .isx a ys,ρ,w,q=>by
  simp only [ev] at q |-;exact V8 (fun x=>Gi (Gu h a ρ)) (fun _ _ z=>z) q
 | .idx a b,ρ,w,q=>by
  simp only [ev] at q |-;exact V8 (fun x=>Gi (Gu h a ρ)) (fun x y=>V8 (fun x=>Gi (Gu h b ρ)) fun _ _ z=>z) q
 | .fm f l,ρ,w,q=>by
  simp only [ev] at q |-;exact V8 (evs_le h l ρ) (fun _ _ z=>z) q
 | .lcp a,ρ,w,q=>by
  simp only [ev] at q |-;exact V8 (fun x=>Gi (Gu h a ρ)) (fun _ _ z=>z) q
 | .comp elt t it nt fr c,ρ,w,q=>by
  simp only [ev] at q |-;refine V8 (evW_le h it ρ) (fun items y=>zgu (Gi fun r=>zic fun d y=>?_) fun z=>z) q;exact V8 (fun _ z=>z) (fun ρd y=>V8 (evc_le h c ρd) fun k y=>zgu (Gi fun x=>Gi (Gu h elt ρd)) fun z=>z)
theorem evs_le (h:∀ f ds w,Γ f ds=some w->Γ' f ds=some w):∀ (l:Es) (ρ:Rho) (w:List D),evs Γ l ρ=some w->evs Γ' l ρ=some w
 | .nil,ρ,w,q=>by simp only [evs] at q |-;exact q
 | .cons e l,ρ,w,q=>by
  simp only [evs] at q |-;exact V8 (fun x=>Gi (Gu h e ρ)) (fun x y=>Gi (evs_le h l ρ)) q
theorem evo_le (h:∀ f ds w,Γ f ds=some w->Γ' f ds=some w):∀ (l:EO) (ρ:Rho) (w:Option Int),evo Γ l ρ=some w->evo Γ' l ρ=some w
 | .non,ρ,w,q=>by simp only [evo] at q |-;exact q
 | .som e,ρ,w,q=>by
  simp only [evo] at q |-;exact Gi (fun x=>V8 (fun x=>Gi (Gu h e ρ)) fun _ _ z=>z) q
theorem evc_le (h:∀ f ds w,Γ f ds=some w->Γ' f ds=some w):∀ (l:EO) (ρ:Rho) (w:Bool),evc Γ l ρ=some w->evc Γ' l ρ=some w
 | .non,ρ,w,q=>by simp only [evc] at q |-;exact q
 | .som e,ρ,w,q=>by
  simp only [evc] at q |-;exact V8 (fun x=>Gi (Gu h e ρ)) (fun _ _ z=>z) q
theorem evW_le (h:∀ f ds w,Γ f ds=some w->Γ' f ds=some w):∀ (l:It') (ρ:Rho) (w:List D),evW Γ l ρ=some w->evW Γ' l ρ=some w
 | .seq e,ρ,w,q=>by
  simp only [evW] at q |-;exact V8 (fun x=>Gi (Gu h e ρ)) (fun _ _ z=>z) q
 | .seqV i,ρ,w,q=>by simp only [evW] at q |-;exact q
 | .range1 a,ρ,w,q=>by
  simp only [evW] at q |-;exact V8 (fun x=>V8 (fun x=>Gi (Gu h a ρ)) fun _ _ z=>z) (fun _ _ z=>z) q
 | .range2 a b,ρ,w,q=>by
  simp only [evW] at q |-;exact V8 (fun x=>V8 (fun x=>Gi (Gu h a ρ)) fun _ _ z=>z) (fun _ _=>V8 (fun x=>V8 (fun x=>Gi (Gu h b ρ)) fun _ _ z=>z) fun _ _ z=>z) q
 | .enum e,ρ,w,q=>by
  simp only [evW] at q |-;exact Gi (fun x=>V8 (fun x=>Gi (Gu h e ρ)) fun _ _ z=>z) q
 | .rev e,ρ,w,q=>by
  simp only [evW] at q |-;exact Gi (fun x=>V8 (fun x=>Gi (Gu h e ρ)) fun _ _ z=>z) q
end
theorem evI_le (h:∀ f ds w,Γ f ds=some w->Γ' f ds=some w):∀ (l:It') (ρ:RhoS) (w:List D×RhoS),evI Γ l ρ=some w->evI Γ' l ρ=some w
 | .seq e,ρ,w,q=>by
  simp only [evI] at q |-;exact V8 (Gu h e (view ρ)) (fun _ _ z=>z) q
 | .seqV i,ρ,w,q=>by simp only [evI] at q |-;exact q
 | .range1 a,ρ,w,q=>by
  simp only [evI] at q |-;exact V8 (fun x=>V8 (fun x=>Gi (Gu h a (view ρ))) fun _ _ z=>z) (fun _ _ z=>z) q
 | .range2 a b,ρ,w,q=>by
  simp only [evI] at q |-;exact V8 (fun x=>V8 (fun x=>Gi (Gu h a (view ρ))) fun _ _ z=>z) (fun _ _=>V8 (fun x=>V8 (fun x=>Gi (Gu h b (view ρ))) fun _ _ z=>z) fun _ _ z=>z) q
 | .enum e,ρ,w,q=>by
  simp only [evI] at q |-;exact V8 (Gu h e (view ρ)) (fun _ _ z=>z) q
 | .rev e,ρ,w,q=>by simp only [evI] at q;cases q
theorem zim {c c':RhoS->Option Bool} {b b':RhoS->Option Out} (hc:∀ ρ k,c ρ=some k->c' ρ=some k) (hb:∀ ρ o,b ρ=some o->b' ρ=some o):∀ (n:Nat) (ρ:RhoS) (o:Out),G3 c b n ρ=some o->G3 c' b' n ρ=some o
 | 0,_,_,q=>by cases q
 | n+1,ρ,o,q=>by
  unfold G3 at q |-;cases e:c ρ with
  | none=>rw [e] at q;cases q
  | some k=>
   simp only [e] at q;simp only [hc ρ k e];cases k with
   | false=>exact q
   | true=>
    cases e2:b ρ with
    | none=>simp only [e2] at q;cases q
    | some o2=>
     simp only [e2] at q;simp only [hb ρ o2 e2];cases o2 with
     | rt w=>exact q
     | nx ρ'=>exact zim hc hb n ρ' o q
theorem zrs {bt:D->RhoS->Option RhoS} {b b':RhoS->Option Out} (hb:∀ ρ o,b ρ=some o->b' ρ=some o):∀ (l:List D) (ρ:RhoS) (o:Out),forN bt b l ρ=some o->forN bt b' l ρ=some o
 | [],_,_,q=>q
 | d::l,ρ,o,q=>by
  unfold forN at q |-;cases e:bt d ρ with
  | none=>rw [e] at q;cases q
  | some ρ1=>
   simp only [e] at q;simp only
   cases e2:b ρ1 with
   | none=>simp only [e2] at q;cases q
   | some o2=>
    simp only [e2] at q;simp only [hb ρ1 o2 e2];cases o2 with
    | rt w=>exact q
    | nx ρ'=>exact zrs hb l ρ' o q
mutual
def zqu:S->Bool
 | .tryC _ _ _ _ _=>false
 | .iff _ a b=>noTrys a && noTrys b
 | .whl _ b=>noTrys b
 | .frr _ _ b=>noTrys b
 | _=>true
def noTrys:Ss->Bool
 | .nil=>true
 | .cons s l=>zqu s && noTrys l
end
mutual
theorem ex_le (h:∀ f ds w,Γ f ds=some w->Γ' f ds=some w):∀ (s:S) (ρ:RhoS) (o:Out),zqu s=true->ex Γ s ρ=some o->ex Γ' s ρ=some o
 | .asg i e,ρ,o,_,q=>by
  simp only [ex] at q |-;exact V8 (Gu h e _) (fun _ _ z=>z) q
 | .unp is e,ρ,o,_,q=>by
  simp only [ex] at q |-;exact V8 (Gu h e _) (fun _ _ z=>z) q
 | .par i j a b,ρ,o,_,q=>by
  simp only [ex] at q |-;exact V8 (fun x=>Gi (Gu h a _)) (fun _ _=>V8 (fun x=>Gi (Gu h b _)) fun _ _ z=>z) q
 | .ret e,ρ,o,_,q=>by
  simp only [ex] at q |-;exact Gi (Gu h e _) q
 | .retV i,ρ,o,_,q=>by simp only [ex] at q |-;exact q
 | .iff c a b,ρ,o,n,q=>by
  simp only [zqu,Zl] at n;simp only [ex,evB] at q |-;exact V8 (fun x=>V8 (fun x=>Gi (Gu h c _)) fun _ _ z=>z) (fun _ y=>zgu (exs_le h a ρ y n.1) (exs_le h b ρ y n.2)) q
 | .whl c b,ρ,o,n,q=>by
  simp only [zqu] at n;simp only [ex] at q |-;obtain⟨m,hm⟩:=zgo q
  refine zcd (zim (fun ρ k z=>?_) (fun ρ o z=>exs_le h b ρ o n z) m ρ o hm);unfold evB at z |-;exact V8 (fun x=>Gi (Gu h c _)) (fun _ _ z=>z) z
 | .frr t it b,ρ,o,n,q=>by
  simp only [zqu] at n;simp only [ex] at q |-;exact V8 (evI_le h it ρ) (fun p y=>zrs (fun ρ o z=>exs_le h b ρ o n z) _ _ _) q
 | .tryC f g l i j,ρ,o,n,q=>by cases n
 | .app i e,ρ,o,_,q=>by
  simp only [ex] at q |-;exact V8 (Gu h e _) (fun _ _ z=>z) q
 | .pop i,ρ,o,_,q=>by simp only [ex] at q |-;exact q
 | .clr i,ρ,o,_,q=>by simp only [ex] at q |-;exact q
 | .seti i k e,ρ,o,_,q=>by
  simp only [ex] at q |-;exact V8 (Gu h e _) (fun _ _=>V8 (fun x=>V8 (fun x=>Gi (Gu h k _)) fun _ _ z=>z) fun _ _ z=>z) q
 | .never,ρ,o,_,q=>by simp only [ex] at q;cases q
theorem exs_le (h:∀ f ds w,Γ f ds=some w->Γ' f ds=some w):∀ (l:Ss) (ρ:RhoS) (o:Out),noTrys l=true->exs Γ l ρ=some o->exs Γ' l ρ=some o
 | .nil,ρ,o,_,q=>by simp only [exs] at q |-;exact q
 | .cons s l,ρ,o,n,q=>by
  simp only [noTrys,Zl] at n;simp only [exs] at q |-;refine V8 (fun o z=>ex_le h s ρ o n.1 z) (fun o2 y z=>?_) q;cases o2 with
  | nx ρ'=>exact exs_le h l ρ' y n.2 z
  | rt w=>exact z
end
def tab:List (Nat×(List D->Option W))->Nat->List D->Option W
 | [],_=>fun _=>none
 | (k,m)::t,n=>if n=k then m else tab t n
theorem zxk:∀ (T:List (Nat×(List D->Option W))),(∀ p∈T,Γ p.1=p.2)->∀ f ds w,tab T f ds=some w->Γ f ds=some w
 | [],_,_,_,_,q=>by simp only [tab] at q;cases q
 | (k,m)::t,h,f,ds,w,q=>by
  unfold tab at q;by_cases e:f=k
  ·rw [if_pos e] at q;subst e;rw [h (f,m) (.head _)];exact q
  ·rw [if_neg e] at q;exact zxk t (fun p hp=>h p (.tail _ hp)) f ds w q
theorem zay {b:Ss} {n:Nat} (T:List (Nat×(List D->Option W))) (hT:∀ p∈T,Γ p.1=p.2) (hb:noTrys b=true) (ds:List D) (w:W) (h:run (tab T) b n ds=some w):run Γ b n ds=some w:=by
 unfold run at h |-;exact V8 (fun o=>exs_le (zxk T hT) b _ o hb) (fun _ _ z=>z) h
end
theorem cm_lt {a b:Int}:cmpD .lt (.int a) (.int b)=some (decide (a<b)):=rfl
theorem cm_le {a b:Int}:cmpD .le (.int a) (.int b)=some (decide (a<=b)):=rfl
theorem cm_gt {a b:Int}:cmpD .gt (.int a) (.int b)=some (decide (b<a)):=rfl
theorem cm_ge {a b:Int}:cmpD .ge (.int a) (.int b)=some (decide (b<=a)):=rfl
theorem cm_eq {a b:Int}:cmpD .eq (.int a) (.int b)=some (decide (a=b)):=rfl
theorem cm_ne {a b:Int}:cmpD .ne (.int a) (.int b)=some (!decide (a=b)):=rfl
theorem cm_eqB {a b:Bool}:cmpD .eq (.bl a) (.bl b)=some (a == b):=rfl
theorem cm_neB {a b:Bool}:cmpD .ne (.bl a) (.bl b)=some (!(a == b)):=rfl
theorem cm_eqT {a b:List D}:cmpD .eq (.tup a) (.tup b)=if (dOkL 49 a && dOkL 49 b)=true then some (eqL a b) else none:=rfl
theorem cm_eqL {a b:List D}:cmpD .eq (.lst a) (.lst b)=if (dOkL 49 a && dOkL 49 b)=true then some (eqL a b) else none:=rfl
theorem cm_in {x:D} {l:List D}:cmpD .isin x (.lst l)=if (dOk 50 x && dOkL 49 l)=true then some (l.any fun y=>eqD y x) else none:=rfl
theorem cm_isN {a:D}:cmpD .isN a .non=some (zdq a):=rfl
theorem ydk {a:D}:cmpD .notN a .non=some (!zdq a):=rfl
end DL
namespace Sf
abbrev gc (a b:Int):Int:=((Int.gcd a b:Nat):Int)
theorem gc_nn (a b:Int):0<=gc a b:=Yl _
theorem zfj {a b:Int} (h:b≠0):0<gc a b:=Int.natCast_pos.mpr (Int.gcd_pos_of_ne_zero_right a h)
theorem zlc {g s:Int}:gc s (g%s)=gc g s:=by
 have e:g=g%s+s*(g/s):=by have:=Int.emod_add_mul_ediv g s;omega
 show ((Int.gcd s (g%s):Nat):Int)=((Int.gcd g s:Nat):Int);have h:Int.gcd s g=Int.gcd s (g%s):=by
  conv=>lhs;rw [e]
  rw [Int.gcd_add_mul_left_right]
 rw [Int.gcd_comm g s,h]
theorem zhs {g:Int} (h:0<=g):gc g 0=g:=by
 show ((Int.gcd g 0:Nat):Int)=g;rw [Int.gcd_zero];omega
theorem zym (a b:Int):gc (if a<0 then -a else a) (if b<0 then -b else b)=gc a b:=by
 show ((Int.gcd _ _:Nat):Int)=_;split <;> split <;> simp only [Int.neg_gcd,Int.gcd_neg]
theorem zoq {p q:Int} (h:∀ c,c∣p->c∣q->c∣1):Int.gcd p q=1:=W1.mpr h
theorem zco {k m n:Int} (h:Int.gcd k m=1) (d:k∣m*n):k∣n:=by
 have e:=Ql (n:=k) (m:=m) (k:=n) h;have h1:Int.gcd k (m*n)=k.natAbs:=Int.gcd_eq_natAbs_left d;rw [h1] at e;exact Int.gcd_eq_natAbs_left_iff_dvd.mp e.symm
theorem G2 {a b:Int} (h:a∣b) (hb:b≠0):a.natAbs<=b.natAbs:=
 Nat.le_of_dvd (by omega) (Int.natAbs_dvd_natAbs.mpr h)
theorem zht {a b:Int} (h:0<gc a b):∃ x y:Int,a=gc a b*x/\b=gc a b*y/\Int.gcd x y=1:=by
 obtain⟨x,hx⟩:=Ki a b
 obtain⟨y,hy⟩:=W5 a b
 refine⟨x,y,hx,hy,?_⟩
 have h2:Int.gcd a b=(gc a b).natAbs*Int.gcd x y:=by
  have e:=Int.gcd_mul_left (gc a b) x y;have e1:gc a b*x=a:=hx.symm;have e2:gc a b*y=b:=hy.symm;rw [e1,e2] at e;exact e
 have h3:(gc a b).natAbs=Int.gcd a b:=Ye _;rw [h3] at h2;have h4:0<Int.gcd a b:=Int.natCast_pos.mp h;exact (Nat.eq_of_mul_eq_mul_left h4 (by rw [Nat.mul_one];exact h2)).symm
structure Fra (p q:Int):Prop where
 pos:0<q
 co:Int.gcd p q=1
theorem Fra.cross_dvd {p q N B:Int} (f:Fra p q) (h:p*B=N*q):p∣N/\q∣B:=by
 constructor
 ·refine zco f.co ⟨B,?_⟩;rw [h,Qr]
 ·refine zco (k:=q) (m:=p) (by rw [Int.gcd_comm];exact f.co) ⟨N,?_⟩;rw [h,Qr]
theorem Fra.cross_le {p q N B:Int} (f:Fra p q) (hB:B≠0) (h:p*B=N*q):p.natAbs<=N.natAbs/\q.natAbs<=B.natAbs:=by
 obtain⟨h1,h2⟩:=f.cross_dvd h
 refine⟨?_,G2 h2 hB⟩
 by_cases hN:N=0
 ·subst hN;rw [Jx] at h;rcases Int.mul_eq_zero.mp h with e | e
  ·rw [e];exact Zj _
  ·exact absurd e hB
 ·exact G2 h1 hN
theorem Fra.uniq {p q r s:Int} (f:Fra p q) (g:Fra r s) (h:p*s=r*q):p=r/\q=s:=by
 have h1:=(f.cross_dvd h).2;have h2:=(g.cross_dvd h.symm).2;have e:q=s:=Int.dvd_antisymm (Wl f.pos) (Wl g.pos) h1 h2;subst e;exact⟨Ks (by have:=f.pos;omega) h,rfl⟩
def by_ (t b:Int):Int:=if b<0 then -(gc t b) else gc t b
def low1 (t b:Int):Int:=t.fdiv (by_ t b)
def low2 (t b:Int):Int:=b.fdiv (by_ t b)
theorem by_ne {t b:Int} (h:b≠0):by_ t b≠0:=by
 have:=zfj (a:=t) h
 unfold by_;split <;> omega
theorem zjo {t b:Int} (h:b≠0):t=by_ t b*low1 t b/\b=by_ t b*low2 t b/\Fra (low1 t b) (low2 t b):=by
 have hg:=zfj (a:=t) h;obtain⟨x,y,hx,hy,hc⟩:=zht hg
 have hn:=by_ne (t:=t) h;have key:∃ z:Int,(z=1\/z = -1)/\by_ t b=gc t b*z/\0<y*z:=by
  by_cases hb:b<0
  ·refine⟨-1,.inr rfl,?_,?_⟩
   ·unfold by_;rw [if_pos hb];omega
   ·have:y<0:=by
     rw [hy] at hb;by_cases hh:y<0
     ·exact hh
     ·exact absurd hb (Q7.mpr (Yb (Wl hg) (Q7.mp hh)))
    omega
  ·refine⟨1,.inl rfl,?_,?_⟩
   ·unfold by_;rw [if_neg hb];omega
   ·have:0<y:=by
     by_cases hh:0<y
     ·exact hh
     ·have:=Wu (Wl hg) (Q7.mp hh)
      rw [<- hy] at this;omega
    omega
 obtain⟨z,hz,hbz,hyz⟩:=key
 have zz:z*z=1:=by rcases hz with e | e <;> subst e <;> decide
 have e1:t=by_ t b*(x*z):=by
  rw [hbz];conv=>lhs;rw [hx]
  grind
 have e2:b=by_ t b*(y*z):=by
  rw [hbz];conv=>lhs;rw [hy]
  grind
 have l1:low1 t b=x*z:=by
  unfold low1;conv=>lhs;arg 1;rw [e1]
  exact Z7 _ hn
 have l2:low2 t b=y*z:=by
  unfold low2;conv=>lhs;arg 1;rw [e2]
  exact Z7 _ hn
 rw [l1,l2];refine⟨e1,e2,hyz,?_⟩
 rcases hz with e | e <;> subst e
 ·rw [Ui,Ui];exact hc
 ·have e3:x * -1 = -x:=by omega
  have e4:y * -1 = -y:=by omega
  rw [e3,e4,Int.neg_gcd,Int.gcd_neg];exact hc
theorem zrd {t b:Int} (h:b≠0):Fra (low1 t b) (low2 t b):=(zjo h).2.2
theorem zre {t b:Int} (h:b≠0):low1 t b*b=t*low2 t b:=by
 obtain⟨e1,e2,_⟩:=zjo (t:=t) h
 generalize by_ t b=g at e1 e2;generalize low1 t b=x at e1 e2 |-;generalize low2 t b=y at e1 e2 |-;subst e1;subst e2;grind
def addT (a b c d:Int):Int:=a*(d.fdiv (gc b d))+c*(b.fdiv (gc b d))
def add1 (a b c d:Int):Int:=(addT a b c d).fdiv (gc (addT a b c d) (gc b d))
def add2 (a b c d:Int):Int:=b.fdiv (gc b d)*d.fdiv (gc (addT a b c d) (gc b d))
theorem add_ok {a b c d:Int} (f:Fra a b) (g:Fra c d):Fra (add1 a b c d) (add2 a b c d)/\add1 a b c d*(b*d)=(a*d+c*b)*add2 a b c d:=by
 have hb:=f.pos;have hd:=g.pos;have hs:0<gc b d:=zfj (by omega);obtain⟨b',d',eb,ed,co⟩:=zht hs
 have hr:0<gc (addT a b c d) (gc b d):=zfj (by omega);obtain⟨t',s',et,es,co2⟩:=zht hr
 have hne:gc b d≠0:=by omega
 have hre:gc (addT a b c d) (gc b d)≠0:=by omega
 have q1:b.fdiv (gc b d)=b':=by
  conv=>lhs;arg 1;rw [eb]
  exact Z7 _ hne
 have q2:d.fdiv (gc b d)=d':=by
  conv=>lhs;arg 1;rw [ed]
  exact Z7 _ hne
 have hT:addT a b c d=a*d'+c*b':=by unfold addT;rw [q1,q2]
 have q3:add1 a b c d=t':=by
  unfold add1;conv=>lhs;arg 1;rw [et]
  exact Z7 _ hre
 have ed2:d=gc (addT a b c d) (gc b d)*(s'*d'):=by
  conv=>lhs;rw [ed]
  rw [<- Jm];conv=>lhs;arg 1;rw [es]
 have q4:d.fdiv (gc (addT a b c d) (gc b d))=s'*d':=by
  conv=>lhs;arg 1;rw [ed2]
  exact Z7 _ hre
 have q5:add2 a b c d=b'*(s'*d'):=by unfold add2;rw [q1,q4]
 rw [q3,q5];generalize gc (addT a b c d) (gc b d)=r at *;generalize gc b d=s at *;rw [hT] at et;have pb:0<b':=by
  by_cases hh:0<b'
  ·exact hh
  ·have:=Wu (Wl hs) (Q7.mp hh);omega
 have pd:0<d':=by
  by_cases hh:0<d'
  ·exact hh
  ·have:=Wu (Wl hs) (Q7.mp hh);omega
 have ps:0<s':=by
  by_cases hh:0<s'
  ·exact hh
  ·have:=Wu (Wl hr) (Q7.mp hh);omega
 have ca:Int.gcd a b'=1:=zoq fun k h1 h2=>W1.mp f.co k h1 (by rw [eb];exact Qs h2)
 have cc:Int.gcd c d'=1:=zoq fun k h1 h2=>W1.mp g.co k h1 (by rw [ed];exact Qs h2)
 have dt:t'∣a*d'+c*b':=⟨r,by rw [et,Qr]⟩;have ctb:Int.gcd t' b'=1:=zoq fun k h1 h2=>by
  have k1:k∣a*d':=(Int.dvd_add_left (Qs h2)).mp (W8 h1 dt);have kd:Int.gcd k d'=1:=zoq fun j j1 j2=>W1.mp co j (W8 j1 h2) j2
  have k2:k∣a:=zco kd (by rw [Qr];exact k1);exact W1.mp ca k k2 h2
 have ctd:Int.gcd t' d'=1:=zoq fun k h1 h2=>by
  have k1:k∣c*b':=(Int.dvd_add_right (Qs h2)).mp (W8 h1 dt);have kd:Int.gcd k b'=1:=zoq fun j j1 j2=>W1.mp co j j2 (W8 j1 h2)
  have k2:k∣c:=zco kd (by rw [Qr];exact k1);exact W1.mp cc k k2 h2
 refine⟨⟨Wf pb (Wf ps pd),?_⟩,?_⟩
 ·rw [Ql ctb,Ql co2];exact ctd
 ·subst eb;subst ed;subst es;have:a*(r*s'*d')+c*(r*s'*b')=r*s'*(r*t'):=by rw [<- et];grind
  rw [this];grind
end Sf
namespace Sf
theorem zam (x:Rat):Fra x.num (x.den:Int):=⟨by have:=x.den_nz;omega,by
 have:=x.reduced
 show Nat.gcd x.num.natAbs ((x.den:Int)).natAbs=1;exact this⟩
theorem rat_of {p q:Int} (f:Fra p q):(Rat.divInt p q).num=p/\((Rat.divInt p q).den:Int)=q:=by
 have hq:=f.pos;refine (zam (Rat.divInt p q)).uniq f ?_;have e:Rat.divInt (Rat.divInt p q).num ((Rat.divInt p q).den:Int)=Rat.divInt p q:=Yd _;exact (Uq (by have:=(Rat.divInt p q).den_nz;omega) (by omega)).mp e
theorem zmd {x:Rat} {p q:Int} (hq:q≠0):x=Rat.divInt p q↔x.num*q=p*(x.den:Int):=by
 conv=>lhs;lhs;rw [<- Yd x]
 exact Uq (by have:=x.den_nz;omega) hq
theorem ybx {t b:Int} (h:b≠0):(Rat.divInt t b).num=low1 t b/\((Rat.divInt t b).den:Int)=low2 t b:=
 (zam _).uniq (zrd h) (by
  have e:=(zmd (x:=Rat.divInt t b) h).mp rfl;have c:=zre (t:=t) h;have f:=(zrd (t:=t) h).pos;apply Ks h
  grind)
theorem yee (x y:Rat):(x+y).num=add1 x.num x.den y.num y.den/\((x+y).den:Int)=add2 x.num x.den y.num y.den:=by
 obtain⟨f,c⟩:=add_ok (zam x) (zam y)
 refine (zam _).uniq f ?_;have hx:(x.den:Int)≠0:=by have:=x.den_nz;omega
 have hy:(y.den:Int)≠0:=by have:=y.den_nz;omega
 have e:x+y=Rat.divInt (x.num*y.den+y.num*x.den) (x.den*y.den):=by
  conv=>lhs;rw [<- Yd x,<- Yd y]
  exact Qg _ _ hx hy
 have e2:=(zmd (x:=x+y) (Zz hx hy)).mp e;apply Ks (Zz hx hy)
 grind
theorem zkx (x y:Rat):x*y=Rat.divInt (x.num*y.num) (x.den*y.den):=by
 conv=>lhs;rw [<- Yd x,<- Yd y]
 exact Wg _ _
theorem zrv {x y:Rat} (h:y≠0):x/y=Rat.divInt (x.num*y.den) (x.den*y.num):=by
 conv=>lhs;rw [<- Yd x,<- Yd y]
 rw [Yw,Rat.inv_divInt,Wg]
structure Sz (n:Nat) (x:Rat):Prop where
 t:x.num.natAbs<2^n
 b:x.den<2^n
theorem Gc {m n:Nat} (h:m<=n):2^m<=2^n:=Nat.pow_le_pow_right (by decide) h
theorem Sz.mono {m n:Nat} {x:Rat} (h:Sz m x) (k:m<=n):Sz n x:=⟨Zd h.t (Gc k),Zd h.b (Gc k)⟩
theorem Bw {a b m n:Nat} (h:a<2^m) (k:b<2^n):a*b<2^(m+n):=by
 rw [Nat.pow_add];exact Nat.mul_lt_mul'' h k
theorem zai {x:Rat} {p q:Int} {n:Nat} (hq:q≠0) (e:x=Rat.divInt p q) (hp:p.natAbs<2^n) (hb:q.natAbs<2^n):Sz n x:=by
 obtain⟨a,b⟩:=(zam x).cross_le hq ((zmd hq).mp e)
 exact⟨Yx a hp,by have:=b;omega⟩
theorem Sz.mul {m n:Nat} {x y:Rat} (hx:Sz m x) (hy:Sz n y):Sz (m+n) (x*y):=by
 have a:(x.den:Int)≠0:=by have:=x.den_nz;omega
 have b:(y.den:Int)≠0:=by have:=y.den_nz;omega
 refine zai (Zz a b) (zkx x y) ?_ ?_
 ·rw [Ym];exact Bw hx.t hy.t
 ·rw [Ym];exact Bw hx.b hy.b
theorem Sz.add {m n:Nat} {x y:Rat} (hx:Sz m x) (hy:Sz n y):Sz (m+n+1) (x+y):=by
 have a:(x.den:Int)≠0:=by have:=x.den_nz;omega
 have b:(y.den:Int)≠0:=by have:=y.den_nz;omega
 have e:x+y=Rat.divInt (x.num*y.den+y.num*x.den) (x.den*y.den):=by
  conv=>lhs;rw [<- Yd x,<- Yd y]
  exact Qg _ _ a b
 have t1:=Bw hx.t hy.b;have t2:=Bw hy.t hx.b;rw [U4 n m] at t2;have t3:=Bw hx.b hy.b;have p2:2^(m+n+1)=2^(m+n)+2^(m+n):=by rw [Ju];omega
 refine zai (Zz a b) e ?_ ?_
 ·have h1:=Kz (x.num*y.den) (y.num*x.den);rw [Ym,Ym,Ye,Ye] at h1;omega
 ·rw [Ym,Ye,Ye];omega
theorem Sz.neg {n:Nat} {x:Rat} (hx:Sz n x):Sz n (-x):=⟨by show (-x.num).natAbs<_;rw [Int.natAbs_neg];exact hx.t,hx.b⟩
theorem Sz.sub {m n:Nat} {x y:Rat} (hx:Sz m x) (hy:Sz n y):Sz (m+n+1) (x-y):=by
 rw [Jk];exact hx.add hy.neg
theorem Sz.div {m n:Nat} {x y:Rat} (hx:Sz m x) (hy:Sz n y) (h:y≠0):Sz (m+n) (x/y):=by
 have a:(x.den:Int)≠0:=by have:=x.den_nz;omega
 have b:y.num≠0:=fun z=>h (Rat.num_eq_zero.mp z)
 refine zai (Zz a b) (zrv h) ?_ ?_
 ·rw [Ym];exact Bw hx.t hy.b
 ·rw [Ym];exact Bw hx.b hy.t
theorem zeq {t b:Int} {n:Nat} (h:b≠0) (ht:t.natAbs<2^n) (hb:b.natAbs<2^n):Sz n (Rat.divInt t b):=zai h rfl ht hb
end Sf
namespace DL
def zcr:Ss:=(.cons (.asg 2 (.bi .abs (.cons (.var 0) .nil))) (.cons (.asg 3 (.bi .abs (.cons (.var 1) .nil))) (.cons (.whl (.cmp .ne (.var 3) (.int 0)) (.cons (.asg 4 (.bin .mod (.var 2) (.var 3))) (.cons (.asg 2 (.var 3)) (.cons (.asg 3 (.var 4)) .nil)))) (.cons (.retV 2) .nil))))
def zik:Ss:=(.cons (.iff (.cmp .eq (.var 1) (.int 0)) (.cons .never .nil) .nil) (.cons (.asg 2 (.call 0 (.cons (.var 0) (.cons (.var 1) .nil)))) (.cons (.iff (.cmp .lt (.var 1) (.int 0)) (.cons (.asg 2 (.neg (.var 2))) .nil) .nil) (.cons (.ret (.tup (.cons (.bin .fdiv (.var 0) (.var 2)) (.cons (.bin .fdiv (.var 1) (.var 2)) .nil)))) .nil))))
def zno:Ss:=(.cons (.asg 2 (.call 0 (.cons (.ix (.var 0) (.int 1)) (.cons (.ix (.var 1) (.int 1)) .nil)))) (.cons (.asg 3 (.bin .add (.bin .mul (.ix (.var 0) (.int 0)) (.bin .fdiv (.ix (.var 1) (.int 1)) (.var 2))) (.bin .mul (.ix (.var 1) (.int 0)) (.bin .fdiv (.ix (.var 0) (.int 1)) (.var 2))))) (.cons (.asg 4 (.call 0 (.cons (.var 3) (.cons (.var 2) .nil)))) (.cons (.ret (.tup (.cons (.bin .fdiv (.var 3) (.var 4)) (.cons (.bin .mul (.bin .fdiv (.ix (.var 0) (.int 1)) (.var 2)) (.bin .fdiv (.ix (.var 1) (.int 1)) (.var 4))) .nil)))) .nil))))
def zil:Ss:=(.cons (.ret (.call 9 (.cons (.var 0) (.cons (.tup (.cons (.neg (.ix (.var 1) (.int 0))) (.cons (.ix (.var 1) (.int 1)) .nil))) .nil)))) .nil)
def zij:Ss:=(.cons (.ret (.call 1 (.cons (.bin .mul (.ix (.var 0) (.int 0)) (.ix (.var 1) (.int 0))) (.cons (.bin .mul (.ix (.var 0) (.int 1)) (.ix (.var 1) (.int 1))) .nil)))) .nil)
def B0:Ss:=(.cons (.asg 0 (.bi .abs (.cons (.var 0) .nil))) (.cons (.asg 1 (.bi .abs (.cons (.var 1) .nil))) (.cons (.whl (.cmp .gt (.var 1) (.int 0)) (.cons (.par 0 1 (.var 1) (.bin .mod (.var 0) (.var 1))) .nil)) (.cons (.retV 0) .nil))))
def znp:Ss:=(.cons (.ret (.call 1 (.cons (.bin .mul (.ix (.var 0) (.int 0)) (.ix (.var 1) (.int 1))) (.cons (.bin .mul (.ix (.var 0) (.int 1)) (.ix (.var 1) (.int 0))) .nil)))) .nil)
def B2:Ss:=(.cons (.ret (.comp (.call 42 (.cons (.var 1) (.cons (.var 2) .nil))) (.tup [1,2]) (.seq (.call 41 (.cons (.var 0) .nil))) 3 [] .non)) .nil)
def zfv:Ss:=(.cons (.ret (.fm .zip (.cons (.var 0) (.cons (.bin .add (.sl (.var 0) (.som (.int 1)) .non) (.sl (.var 0) .non (.som (.int 1)))) .nil)))) .nil)
def Bf:Ss:=(.cons (.asg 2 (.call 10 (.cons (.ix (.var 0) (.int 1)) (.cons (.ix (.var 1) (.int 1)) .nil)))) (.cons (.asg 3 (.call 10 (.cons (.ix (.var 1) (.int 0)) (.cons (.ix (.var 0) (.int 0)) .nil)))) (.cons (.asg 4 (.call 9 (.cons (.call 11 (.cons (.var 2) (.cons (.ix (.var 0) (.int 0)) .nil))) (.cons (.call 11 (.cons (.var 3) (.cons (.ix (.var 0) (.int 1)) .nil))) .nil)))) (.cons (.ret (.call 43 (.cons (.tup (.cons (.var 2) (.cons (.var 3) (.cons (.var 4) .nil)))) .nil))) .nil))))
def G6:Ss:=(.cons (.asg 1 (.int 1)) (.cons (.frr (.name 2) (.seqV 0) (.cons (.asg 1 (.bin .mul (.var 1) (.ix (.var 2) (.int 1)))) .nil)) (.cons (.asg 3 (.comp (.bin .mul (.ix (.var 1) (.int 0)) (.bin .fdiv (.var 2) (.ix (.var 1) (.int 1)))) (.name 1) (.seqV 0) 2 [1] .non)) (.cons (.asg 4 (.int 0)) (.cons (.frr (.name 5) (.seqV 3) (.cons (.asg 4 (.call 0 (.cons (.var 4) (.cons (.var 5) .nil)))) .nil)) (.cons (.ret (.fm .tupl (.cons (.comp (.bin .fdiv (.var 1) (.var 2)) (.name 1) (.seqV 3) 2 [4] .non) .nil))) .nil))))))
def zbe:Ss:=(.cons (.asg 1 (.tup (.cons (.int 0) (.cons (.int 1) .nil)))) (.cons (.frr (.tup [2,3]) (.seq (.call 41 (.cons (.var 0) .nil))) (.cons (.asg 4 (.call 10 (.cons (.call 11 (.cons (.ix (.var 2) (.int 0)) (.cons (.ix (.var 3) (.int 1)) .nil))) (.cons (.call 11 (.cons (.ix (.var 3) (.int 0)) (.cons (.ix (.var 2) (.int 1)) .nil))) .nil)))) (.cons (.asg 1 (.call 9 (.cons (.var 1) (.cons (.var 4) .nil)))) .nil))) (.cons (.retV 1) .nil)))
def zbn:Ss:=(.cons (.ret (.comp (.call 67 (.cons (.var 1) (.cons (.var 2) .nil))) (.name 1) (.seqV 0) 2 [1] .non)) .nil)
def zfx:Ss:=(.cons (.ret (.tup (.cons (.call 9 (.cons (.ix (.var 0) (.int 0)) (.cons (.ix (.var 1) (.int 0)) .nil))) (.cons (.call 9 (.cons (.ix (.var 0) (.int 1)) (.cons (.ix (.var 1) (.int 1)) .nil))) .nil)))) .nil)
def zdc:Ss:=(.cons (.iff (.cmp .le (.ix (.var 1) (.int 0)) (.int 0)) (.cons .never .nil) .nil) (.cons (.ret (.comp (.tup (.cons (.call 11 (.cons (.var 1) (.cons (.var 3) .nil))) (.cons (.call 11 (.cons (.var 2) (.cons (.var 3) .nil))) .nil))) (.tup [1,2]) (.seqV 0) 3 [1] .non)) .nil))
def zfw:Ss:=(.cons (.ret (.bin .sub (.bin .mul (.ix (.var 0) (.int 0)) (.ix (.var 1) (.int 1))) (.bin .mul (.ix (.var 0) (.int 1)) (.ix (.var 1) (.int 0))))) .nil)
def zcq:Ss:=(.cons (.asg 2 (.call 40 (.cons (.var 0) .nil))) (.cons (.asg 3 (.call 40 (.cons (.var 1) .nil))) (.cons (.asg 4 (.lst .nil)) (.cons (.asg 5 (.int 0)) (.cons (.asg 6 (.int 0)) (.cons (.whl (.or (.cmp .lt (.var 5) (.bi .len (.cons (.var 0) .nil))) (.cmp .lt (.var 6) (.bi .len (.cons (.var 1) .nil)))) (.cons (.app 4 (.call 67 (.cons (.ix (.var 0) (.bin .mod (.var 5) (.bi .len (.cons (.var 0) .nil)))) (.cons (.ix (.var 1) (.bin .mod (.var 6) (.bi .len (.cons (.var 1) .nil)))) .nil)))) (.cons (.asg 7 (.call 83 (.cons (.sl (.var 2) (.som (.var 5)) .non) (.cons (.sl (.var 3) (.som (.var 6)) .non) .nil)))) (.cons (.iff (.cmp .ge (.var 7) (.int 0)) (.cons (.asg 5 (.bin .add (.var 5) (.int 1))) .nil) .nil) (.cons (.iff (.cmp .le (.var 7) (.int 0)) (.cons (.asg 6 (.bin .add (.var 6) (.int 1))) .nil) .nil) .nil))))) (.cons (.retV 4) .nil)))))))
def Gv:Ss:=(.cons (.iff (.cmp .eq (.var 1) (.lst .nil)) (.cons (.ret (.int 1)) .nil) .nil) (.cons (.iff (.cmp .eq (.var 0) (.lst .nil)) (.cons (.ret (.neg (.int 1))) .nil) .nil) (.cons (.ret (.call 81 (.cons (.ix (.var 0) (.int 0)) (.cons (.ix (.var 1) (.int 0)) .nil)))) .nil)))
def zdd:Ss:=(.cons (.asg 2 (.call 20 (.cons (.call 10 (.cons (.ix (.ix (.var 0) (.int 1)) (.int 0)) (.cons (.ix (.ix (.var 0) (.int 0)) (.int 0)) .nil))) (.cons (.call 10 (.cons (.ix (.ix (.var 1) (.int 1)) (.int 0)) (.cons (.ix (.ix (.var 1) (.int 0)) (.int 0)) .nil))) .nil)))) (.cons (.asg 3 (.call 68 (.cons (.var 1) (.cons (.var 2) .nil)))) (.cons (.asg 4 (.tup (.cons (.call 10 (.cons (.ix (.ix (.var 0) (.int 0)) (.int 0)) (.cons (.ix (.ix (.var 3) (.int 0)) (.int 0)) .nil))) (.cons (.call 10 (.cons (.ix (.ix (.var 0) (.int 0)) (.int 1)) (.cons (.ix (.ix (.var 3) (.int 0)) (.int 1)) .nil))) .nil)))) (.cons (.iff (.cmp .eq (.call 66 (.cons (.var 3) (.cons (.var 4) .nil))) (.var 0)) (.cons (.ret (.tup (.cons (.var 2) (.cons (.var 4) .nil)))) .nil) .nil) (.cons (.ret .non) .nil)))))
def Br:Ss:=(.cons (.asg 3 (.comp (.int 0) (.name 1) (.range1 (.var 1)) 2 [] .non)) (.cons (.frr (.name 2) (.range1 (.bi .max (.cons (.var 1) (.cons (.bi .min (.cons (.bi .len (.cons (.var 0) .nil)) (.cons (.int 63) .nil))) .nil)))) (.cons (.asg 4 (.int 0)) (.cons (.iff (.cmp .gt (.bi .len (.cons (.var 0) .nil)) (.int 0)) (.cons (.asg 4 (.bin .mod (.ix (.var 0) (.bin .mod (.var 2) (.bi .min (.cons (.bi .len (.cons (.var 0) .nil)) (.cons (.int 63) .nil))))) (.bin .add (.bin .pow (.int 10) (.int 60)) (.int 7)))) .nil) .nil) (.cons (.asg 5 (.bin .mod (.var 2) (.var 1))) (.cons (.seti 3 (.var 5) (.bin .mod (.bin .add (.bin .add (.bin .mul (.ix (.var 3) (.var 5)) (.int 48271)) (.var 4)) (.bin .mul (.var 2) (.var 2))) (.bin .add (.bin .pow (.int 10) (.int 60)) (.int 7)))) .nil))))) (.cons (.retV 3) .nil)))
def Bv:Ss:=(.cons (.asg 2 (.call 12 (.cons (.var 0) (.cons (.var 1) .nil)))) (.cons (.ret (.tup (.cons (.bin .fdiv (.var 0) (.var 2)) (.cons (.bin .fdiv (.var 1) (.var 2)) .nil)))) .nil))
def Bh:Ss:=(.cons (.asg 1 (.lst (.cons (.bin .sub (.bin .mod (.ix (.var 0) (.int 1)) (.int 3)) (.int 3)) .nil))) (.cons (.frr (.name 2) (.range1 (.bin .add (.int 1) (.bin .mod (.ix (.var 0) (.int 2)) (.int 2)))) (.cons (.app 1 (.bin .add (.bin .add (.ix (.var 1) (.neg (.int 1))) (.int 1)) (.bin .mod (.bin .fdiv (.ix (.var 0) (.int 2)) (.bin .add (.int 2) (.bin .mul (.int 3) (.var 2)))) (.int 3)))) .nil)) (.cons (.asg 3 (.lst (.cons (.bin .sub (.bin .mod (.ix (.var 0) (.int 3)) (.int 4)) (.int 3)) .nil))) (.cons (.frr (.name 2) (.range1 (.bin .mod (.bin .fdiv (.ix (.var 0) (.int 3)) (.int 4)) (.int 3))) (.cons (.app 3 (.bin .add (.bin .add (.ix (.var 3) (.neg (.int 1))) (.int 1)) (.bin .mod (.bin .fdiv (.ix (.var 0) (.int 4)) (.bin .add (.int 1) (.bin .mul (.int 3) (.var 2)))) (.int 3)))) .nil)) (.cons (.asg 4 (.bin .add (.bin .add (.bin .mul (.int 2) (.bi .max (.cons (.comp (.bin .mul (.var 1) (.var 1)) (.name 1) (.seq (.bin .add (.var 1) (.var 3))) 2 [] .non) .nil))) (.int 1)) (.bin .mod (.bin .fdiv (.ix (.var 0) (.int 4)) (.int 32)) (.int 9)))) (.cons (.ret (.bin .add (.comp (.tup (.cons (.var 1) (.cons (.bin .mul (.var 1) (.var 1)) .nil))) (.name 1) (.seqV 1) 2 [] .non) (.comp (.tup (.cons (.var 1) (.cons (.bin .sub (.var 2) (.bin .mul (.var 1) (.var 1))) .nil))) (.name 1) (.rev (.var 3)) 2 [4] .non))) .nil))))))
def Bg:Ss:=(.cons (.asg 1 (.tup (.cons (.bin .add (.int 1) (.bin .mod (.ix (.var 0) (.int 1)) (.int 5))) (.cons (.bin .sub (.bin .mod (.ix (.var 0) (.int 2)) (.int 7)) (.int 3)) .nil)))) (.cons (.asg 2 (.tup (.cons (.bin .sub (.int 0) (.bin .mod (.ix (.var 0) (.int 3)) (.int 4))) (.cons (.bin .add (.int 1) (.bin .mod (.ix (.var 0) (.int 4)) (.int 5))) .nil)))) (.cons (.iff (.cmp .le (.bin .mul (.ix (.var 1) (.int 0)) (.ix (.var 2) (.int 1))) (.bin .mul (.ix (.var 1) (.int 1)) (.ix (.var 2) (.int 0)))) (.cons (.asg 2 (.tup (.cons (.ix (.var 2) (.int 0)) (.cons (.bin .add (.ix (.var 2) (.int 1)) (.int 10)) .nil)))) .nil) .nil) (.cons (.asg 3 (.tup (.cons (.bin .add (.ix (.var 1) (.int 0)) (.ix (.var 2) (.int 0))) (.cons (.bin .add (.ix (.var 1) (.int 1)) (.ix (.var 2) (.int 1))) .nil)))) (.cons (.asg 4 (.bin .mod (.ix (.var 0) (.int 0)) (.int 5))) (.cons (.iff (.cmp .eq (.var 4) (.int 2)) (.cons (.ret (.lst (.cons (.tup (.cons (.int 0) (.cons (.int 0) .nil))) (.cons (.var 1) (.cons (.var 3) (.cons (.var 2) .nil)))))) .nil) .nil) (.cons (.iff (.cmp .eq (.var 4) (.int 3)) (.cons (.ret (.lst (.cons (.tup (.cons (.int 0) (.cons (.int 0) .nil))) (.cons (.var 1) (.cons (.var 2) .nil))))) .nil) .nil) (.cons (.iff (.cmp .eq (.var 4) (.int 4)) (.cons (.asg 5 (.tup (.cons (.bin .add (.ix (.var 1) (.int 0)) (.ix (.var 3) (.int 0))) (.cons (.bin .add (.ix (.var 1) (.int 1)) (.ix (.var 3) (.int 1))) .nil)))) (.cons (.asg 6 (.tup (.cons (.bin .add (.ix (.var 2) (.int 0)) (.ix (.var 3) (.int 0))) (.cons (.bin .add (.ix (.var 2) (.int 1)) (.ix (.var 3) (.int 1))) .nil)))) (.cons (.ret (.lst (.cons (.tup (.cons (.int 0) (.cons (.int 0) .nil))) (.cons (.var 1) (.cons (.var 5) (.cons (.tup (.cons (.bin .mul (.int 2) (.ix (.var 3) (.int 0))) (.cons (.bin .mul (.int 2) (.ix (.var 3) (.int 1))) .nil))) (.cons (.var 6) (.cons (.var 2) .nil)))))))) .nil))) .nil) (.cons (.ret (.call 105 (.cons (.var 0) .nil))) .nil)))))))))
def Bb:Ss:=(.cons (.asg 1 (.call 46 (.cons (.var 0) .nil))) (.cons (.asg 2 (.ix (.lst (.cons (.int 1) (.cons (.bin .add (.int 1) (.bin .mod (.ix (.var 0) (.int 5)) (.bin .pow (.int 10) (.int 9)))) .nil))) (.bin .mod (.bin .fdiv (.ix (.var 0) (.int 0)) (.int 5)) (.int 2)))) (.cons (.asg 3 (.ix (.lst (.cons (.int 10) (.cons (.bin .pow (.int 10) (.int 18)) .nil))) (.bin .mod (.bin .fdiv (.ix (.var 0) (.int 0)) (.int 10)) (.int 2)))) (.cons (.asg 4 (.ix (.lst (.cons (.int 1) (.cons (.bin .add (.int 1) (.bin .mod (.ix (.var 0) (.int 5)) (.int 6))) .nil))) (.bin .mod (.bin .fdiv (.ix (.var 0) (.int 0)) (.int 20)) (.int 2)))) (.cons (.asg 5 (.idx (.var 1) (.bi .min (.cons (.var 1) .nil)))) (.cons (.asg 6 (.lst .nil)) (.cons (.frr (.tup [7,8]) (.seq (.bin .add (.sl (.var 1) (.som (.var 5)) .non) (.sl (.var 1) .non (.som (.var 5))))) (.cons (.asg 9 (.call 103 (.cons (.bin .add (.bin .mul (.var 7) (.var 2)) (.bin .mod (.ix (.var 0) (.int 6)) (.var 3))) (.cons (.var 4) .nil)))) (.cons (.app 6 (.tup (.cons (.var 9) (.cons (.call 103 (.cons (.bin .add (.bin .mul (.var 8) (.var 2)) (.bin .mod (.ix (.var 0) (.int 7)) (.var 3))) (.cons (.var 4) .nil))) .nil)))) .nil))) (.cons (.retV 6) .nil))))))))
def zbo:Ss:=(.cons (.ret (.call 103 (.cons (.bin .add (.bin .mul (.ix (.var 0) (.int 0)) (.ix (.var 1) (.int 1))) (.bin .mul (.ix (.var 1) (.int 0)) (.ix (.var 0) (.int 1)))) (.cons (.bin .mul (.ix (.var 0) (.int 1)) (.ix (.var 1) (.int 1))) .nil)))) .nil)
def Bq:Ss:=(.cons (.ret (.call 103 (.cons (.bin .mul (.ix (.var 0) (.int 0)) (.ix (.var 1) (.int 0))) (.cons (.bin .mul (.ix (.var 0) (.int 1)) (.ix (.var 1) (.int 1))) .nil)))) .nil)
def zbp:Ss:=(.cons (.ret (.cmp .lt (.bin .mul (.ix (.var 0) (.int 0)) (.ix (.var 1) (.int 1))) (.bin .mul (.ix (.var 1) (.int 0)) (.ix (.var 0) (.int 1))))) .nil)
def Bc:Ss:=(.cons (.asg 2 (.call 108 (.cons (.call 58 (.cons (.var 0) .nil)) (.cons (.call 58 (.cons (.var 1) .nil)) .nil)))) (.cons (.ret (.call 108 (.cons (.call 58 (.cons (.call 82 (.cons (.var 0) (.cons (.var 1) .nil))) .nil)) (.cons (.tup (.cons (.bin .sub (.int 0) (.ix (.var 2) (.int 0))) (.cons (.ix (.var 2) (.int 1)) .nil))) .nil)))) .nil))
def G4:Ss:=(.cons (.asg 1 (.call 102 (.cons (.var 0) (.cons (.int 18) .nil)))) (.cons (.asg 2 (.call 47 (.cons (.var 1) .nil))) (.cons (.asg 3 (.call 47 (.cons (.sl (.var 1) (.som (.int 8)) .non) .nil))) (.cons (.asg 4 (.call 103 (.cons (.bin .add (.int 1) (.bin .mod (.ix (.var 1) (.int 16)) (.int 9))) (.cons (.bin .add (.int 1) (.bin .mod (.ix (.var 1) (.int 17)) (.int 9))) .nil)))) (.cons (.iff (.cmp .eq (.bin .mod (.bin .fdiv (.ix (.var 1) (.int 16)) (.int 9)) (.int 3)) (.int 1)) (.cons (.asg 3 (.call 66 (.cons (.call 68 (.cons (.var 2) (.cons (.var 4) .nil))) (.cons (.tup (.cons (.tup (.cons (.bin .mod (.ix (.var 1) (.int 17)) (.int 101)) (.cons (.int 1) .nil))) (.cons (.tup (.cons (.bin .mod (.ix (.var 1) (.int 16)) (.int 101)) (.cons (.int 1) .nil))) .nil))) .nil)))) .nil) .nil) (.cons (.asg 5 (.call 137 (.cons (.var 2) (.cons (.var 3) .nil)))) (.cons (.asg 6 (.call 74 (.cons (.var 5) (.cons (.var 5) .nil)))) (.cons (.asg 7 (.call 74 (.cons (.tup (.cons (.int 4) (.cons (.int 1) .nil))) (.cons (.call 74 (.cons (.call 58 (.cons (.var 2) .nil)) (.cons (.call 58 (.cons (.var 3) .nil)) .nil))) .nil)))) (.cons (.iff (.or (.call 110 (.cons (.var 6) (.cons (.var 7) .nil))) (.cmp .ne (.cmp .eq (.var 6) (.var 7)) (.cmp .notN (.call 132 (.cons (.var 2) (.cons (.var 3) .nil))) .non))) (.cons (.ret (.bl false)) .nil) .nil) (.cons (.ret (.cmp .eq (.call 137 (.cons (.var 2) (.cons (.call 68 (.cons (.var 3) (.cons (.var 4) .nil))) .nil))) (.call 74 (.cons (.var 5) (.cons (.var 4) .nil))))) .nil))))))))))
end DL
namespace Hu
abbrev Pt:=Int×Int
def cr (u v:Pt):Int:=u.1*v.2-u.2*v.1
def sb (b a:Pt):Pt:=(b.1-a.1,b.2-a.2)
def o3 (a b c:Pt):Int:=cr (sb b a) (sb c a)
def ps (u:Pt):Prop:=0<u.1\/(u.1=0/\0<u.2)
def lt (a b:Pt):Prop:=a.1<b.1\/(a.1=b.1/\a.2<b.2)
theorem zhi {a b:Pt} (h:lt a b):ps (sb b a):=by
 unfold lt at h;unfold ps sb;dsimp only;omega
theorem zhm {a b c:Pt} (h:lt a b) (g:lt b c):lt a c:=by unfold lt at *;omega
theorem lt_irrefl (a:Pt):¬ lt a a:=by unfold lt;omega
theorem lt_tri (a b:Pt):lt a b\/a=b\/lt b a:=by
 obtain⟨a1,a2⟩:=a
 obtain⟨b1,b2⟩:=b
 unfold lt;simp only [Prod.mk.injEq];omega
theorem cr_id (u v w:Pt):cr u w*v.1=cr u v*w.1+cr v w*u.1/\cr u w*v.2=cr u v*w.2+cr v w*u.2:=by
 unfold cr;constructor <;> grind
theorem nn_of_mul {a b:Int} (hb:0<b) (h:0<=a*b):0<=a:=by
 by_cases ha:0<=a
 ·exact ha
 ·have:=Int.mul_neg_of_neg_of_pos (Int.not_le.mp ha) hb;omega
theorem tr_le {u v w:Pt} (hu:ps u) (hv:ps v) (hw:ps w) (h1:0<=cr u v) (h2:0<=cr v w):0<=cr u w:=by
 obtain⟨e1,e2⟩:=cr_id u v w
 have u0:0<=u.1:=by unfold ps at hu;omega
 have w0:0<=w.1:=by unfold ps at hw;omega
 rcases hv with hv | ⟨hv1,hv2⟩
 ·exact nn_of_mul hv (by rw [e1];exact Int.add_nonneg (Yb h1 w0) (Yb h2 u0))
 ·-- v is upright: so is w
  have h3:v.2*w.1<=0:=by unfold cr at h2;rw [hv1] at h2;omega
  have hw1:w.1=0:=by
   rcases Int.lt_or_eq_of_le w0 with q | q
   ·have:=Wf hv2 q;omega
   ·exact q.symm
  have hw2:0<w.2:=by unfold ps at hw;omega
  have h4:cr v w=0:=by unfold cr;rw [hv1,hw1];omega
  rw [h4,Jx,Int.add_zero] at e2;exact nn_of_mul hv2 (by rw [e2];exact Yb h1 (Wl hw2))
theorem zfm (u v:Pt):cr u v = - cr v u:=by unfold cr;grind
theorem tr_lt1 {u v w:Pt} (hu:ps u) (hv:ps v) (hw:ps w) (h1:0<cr u v) (h2:0<=cr v w):0<cr u w:=by
 by_cases h:0<cr u w
 ·exact h
 ·have h3:0<=cr w u:=by rw [zfm];omega
  have:=tr_le hv hw hu h2 h3
  rw [zfm] at this;omega
theorem tr_lt2 {u v w:Pt} (hu:ps u) (hv:ps v) (hw:ps w) (h1:0<=cr u v) (h2:0<cr v w):0<cr u w:=by
 by_cases h:0<cr u w
 ·exact h
 ·have h3:0<=cr w u:=by rw [zfm];omega
  have:=tr_le hw hu hv h3 h1
  rw [zfm] at this;omega
theorem zyd (a b c:Pt):o3 a b c=cr (sb b a) (sb c b):=by unfold o3 cr sb;grind
theorem o3_ab (a b:Pt):o3 a b b=0:=by unfold o3 cr sb;grind
theorem o3_ba (a b:Pt):o3 a b a=0:=by unfold o3 cr sb;grind
inductive Chain:List Pt->Prop where
 | one (a:Pt):Chain [a]
 | two (a b:Pt):lt a b->Chain [b,a]
 | more (a b c:Pt) (r:List Pt):Chain (b::a::r)->lt b c->0<o3 a b c->Chain (c::b::a::r)
def Over (q:Pt):List Pt->Prop
 | b::a::r=>0<=o3 a b q/\Over q (a::r)
 | _=>True
def strictOver (q:Pt):List Pt->Prop
 | b::a::r=>0<o3 a b q/\strictOver q (a::r)
 | _=>True
theorem Chain.tail {c b:Pt} {r:List Pt} (h:Chain (c::b::r)):Chain (b::r):=by
 cases h with
 | two a b h=>exact .one _
 | more a b c r h _ _=>exact h
theorem Chain.lt {c b:Pt} {r:List Pt} (h:Chain (c::b::r)):lt b c:=by
 cases h with
 | two a b h=>exact h
 | more a b c r h g _=>exact g
theorem Chain.ahead {p:Pt}:∀ {b a:Pt} {r:List Pt},Chain (b::a::r)->Hu.lt b p->0<o3 a b p->strictOver p (b::a::r):=by
 intro b a r;induction r generalizing a b with
 | nil=>intro _ _ h;exact⟨h,trivial⟩
 | cons z r ih=>
  intro h hp h0;have hab:=h.lt;have ht:=h.tail;cases h with
  | more z a b r h2 hb hz=>
   have hza:Hu.lt z a:=h2.lt;refine⟨h0,ih ht (zhm hab hp) ?_⟩
   have u:=zhi hza;have v:=zhi hab;have w:=zhi hp;rw [zyd] at h0 hz |-;have k1:0<cr (sb a z) (sb p b):=tr_lt1 u v w hz (Wl h0);have e:cr (sb a z) (sb p a)=cr (sb a z) (sb b a)+cr (sb a z) (sb p b):=by unfold cr sb;grind
   rw [e];omega
theorem strictOver.over {q:Pt}:∀ {l:List Pt},strictOver q l->Over q l
 | [],_=>trivial
 | [_],_=>trivial
 | _::a::r,h=>⟨Wl h.1,strictOver.over (l:=a::r) h.2⟩
def popw (p:Pt):List Pt->List Pt
 | b::a::r=>if o3 a b p<=0 then popw p (a::r) else b::a::r
 | l=>l
def bent (st:List Pt):List Pt->List Pt
 | []=>st
 | p::r=>bent (p::popw p st) r
theorem pop_ok {S:List Pt} {p:Pt} (hS:∀ q∈S,lt q p):∀ (st:List Pt) (t:Pt) (r:List Pt),st=t::r->Chain st->(∀ q∈S,Over q st)->(∀ w∈st,w∈S)->(∀ q∈S,lt t q->0<=o3 t p q) ->
  (∀ z,st.getLast? = some z->∀ q∈S,q=z\/lt z q) ->
  ∃ t' r',popw p st=t'::r'/\Chain (p::t'::r')/\(∀ q∈S,Over q (p::t'::r'))/\(∀ w∈t'::r',w∈st)/\(t'::r').getLast? = st.getLast?:=by
 intro st;induction st with
 | nil=>intro t r e;cases e
 | cons b st ih=>
  intro t r e hc ho hw hcov hl;cases e;cases st with
  | nil=>
   refine⟨b,[],rfl,.two b p (hS b (hw b (by simp))),fun q hq=>⟨?_,trivial⟩,fun w h=>h,rfl⟩
   rcases hl b rfl q hq with e | e
   ·subst e;rw [o3_ba];exact Uj 0
   ·exact hcov q hq e
  | cons a r=>
   have hab:lt a b:=hc.lt;have hbp:lt b p:=hS b (hw b (by simp));have hap:lt a p:=zhm hab hbp;by_cases h0:o3 a b p<=0
   ·obtain⟨t',r',e1,e2,e3,e4,e5⟩:=ih a r rfl hc.tail (fun q hq=>(ho q hq).2) (fun w h=>hw w (Yp _ h)) (fun q hq haq=>by
     have h1:=(ho q hq).1;have h2:0<=cr (sb p a) (sb b a):=by rw [zfm];unfold o3 at h0;omega
     exact tr_le (zhi hap) (zhi hab) (zhi haq) h2 h1) (fun z hz=>hl z (by rw [K1];exact hz))
    refine⟨t',r',?_,e2,e3,fun w h=>Yp _ (e4 w h),?_⟩
    ·rw [popw,if_pos h0];exact e1
    ·rw [e5,K1]
   ·have h0':0<o3 a b p:=Int.not_le.mp h0;refine⟨b,a::r,by rw [popw,if_neg h0],.more a b p r hc hbp h0',fun q hq=>⟨?_,ho q hq⟩,fun w h=>h,rfl⟩
    rcases lt_tri b q with e | e | e
    ·exact hcov q hq e
    ·subst e;rw [o3_ba];exact Uj 0
    ·have h1:=(ho q hq).1;rw [zyd] at h1 h0';have k1:0<=cr (sb b q) (sb b a):=by
      have e:cr (sb b q) (sb b a)=cr (sb b a) (sb q b):=by unfold cr sb;grind
      rw [e];exact h1
     have k2:=tr_lt2 (zhi e) (zhi hab) (zhi hbp) k1 h0';have e2:o3 b p q=cr (sb b q) (sb p b):=by unfold o3 cr sb;grind
     rw [e2];exact Wl k2
structure Good (S st:List Pt):Prop where
 ch:Chain st
 ov:∀ q∈S,Over q st
 sub:∀ w∈st,w∈S
 hd:∀ t,st.head? = some t->∀ q∈S,q=t\/lt q t
 ls:∀ z,st.getLast? = some z->∀ q∈S,q=z\/lt z q
theorem Good.push {S st:List Pt} {p:Pt} (g:Good S st) (hS:∀ q∈S,lt q p):Good (p::S) (p::popw p st):=by
 obtain⟨hc,ho,hw,hh,hl⟩:=g
 cases st with
 | nil=>cases hc
 | cons t r=>
  obtain⟨t',r',e1,e2,e3,e4,e5⟩:=pop_ok hS (t::r) t r rfl hc ho hw (fun q hq h=>by
   rcases hh t rfl q hq with e | e
   ·subst e;exact absurd h (lt_irrefl _)
   ·exact absurd (zhm h e) (lt_irrefl _)) hl
  rw [e1];refine⟨e2,fun q hq=>?_,fun w h=>?_,fun z hz q hq=>?_,fun z hz q hq=>?_⟩
  ·rcases Zf.mp hq with e | e
   ·subst e;refine⟨by rw [o3_ab];exact Uj 0,?_⟩
    cases e2 with
    | two a b h=>trivial
    | more a b c r h1 h2 h3=>exact (h1.ahead h2 h3).over
   ·exact e3 q e
  ·rcases Zf.mp h with e | e
   ·subst e;exact Wi
   ·exact Yp _ (hw w (e4 w e))
  ·cases hz;rcases Zf.mp hq with e | e
   ·exact .inl e
   ·exact .inr (hS q e)
  ·rw [K1,e5] at hz;rcases Zf.mp hq with e | e
   ·subst e;have hz':z∈S:=hw z (List.mem_of_getLast? hz);exact .inr (hS z hz')
   ·exact hl z hz q e
theorem Good.start (p:Pt):Good [p] [p]:=
 ⟨.one p,fun q _=>trivial,fun w h=>h,fun t e q hq=>by cases e;exact .inl (Zn.mp hq),fun t e q hq=>by cases e;exact .inl (Zn.mp hq)⟩
def Edge (a b:Pt) (st:List Pt):Prop:=∃ l1 l2,st=l1++b::a::l2
theorem Over.edge {q:Pt}:∀ {st:List Pt} {a b:Pt},Over q st->Edge a b st->0<=o3 a b q
 | st,a,b,h,⟨l1,l2,e⟩=>by
  subst e;induction l1 with
  | nil=>exact h.1
  | cons x l1 ih=>
   cases l1 with
   | nil=>exact ih h.2
   | cons y l=>exact ih h.2
theorem strictOver.edge {q:Pt}:∀ {st:List Pt} {a b:Pt},strictOver q st->Edge a b st->0<o3 a b q
 | st,a,b,h,⟨l1,l2,e⟩=>by
  subst e;induction l1 with
  | nil=>exact h.1
  | cons x l1 ih=>
   cases l1 with
   | nil=>exact ih h.2
   | cons y l=>exact ih h.2
def ng (a:Pt):Pt:=(-a.1,-a.2)
theorem o3_ng (a b c:Pt):o3 (ng a) (ng b) (ng c)=o3 a b c:=by unfold o3 cr sb ng;grind
theorem Edge.ng {a b:Pt} {st:List Pt} (e:Edge a b st):Edge (ng a) (ng b) (st.map Hu.ng):=by
 obtain⟨l1,l2,e⟩:=e
 subst e;exact⟨l1.map Hu.ng,l2.map Hu.ng,by simp⟩
theorem zao {st:List Pt} {i:Nat} {a b:Pt} (h1:st.reverse[i]? = some a) (h2:st.reverse[i+1]? = some b):Edge a b st:=by
 obtain⟨hi,ea⟩:=Zm.mp h1
 obtain⟨hi2,eb⟩:=Zm.mp h2
 have e1:st.reverse=st.reverse.take i++a::b::st.reverse.drop (i+2):=by
  conv=>lhs;rw [<- Ux i st.reverse]
  rw [Z1 hi,ea,Z1 hi2,eb]
 refine⟨(st.reverse.drop (i+2)).reverse,(st.reverse.take i).reverse,?_⟩
 have e2:=congrArg List.reverse e1;rw [List.reverse_reverse] at e2;refine e2.trans ?_;simp
def ring (l:List Pt):List Pt:=(bent [] l).reverse.dropLast++(bent [] l.reverse).reverse.dropLast
structure Both (l st su:List Pt):Prop where
 g:Good l st
 gu:Good (l.map ng) (su.map ng)
theorem Both.over {l st su:List Pt} (h:Both l st su) {a b q:Pt} (e:Edge a b st\/Edge a b su) (hq:q∈l):0<=o3 a b q:=by
 rcases e with e | e
 ·exact (h.g.ov q hq).edge e
 ·have:=(h.gu.ov (ng q) (Y4 hq)).edge e.ng
  rw [o3_ng] at this;exact this
theorem zmu {st:List Pt} {t:Pt} (h:st.head? = some t):st.reverse[st.length-1]? = some t:=by
 cases st with
 | nil=>cases h
 | cons a r=>cases h;simp
theorem zjt {st:List Pt} {t:Pt} (h:st.getLast? = some t):st.reverse[0]? = some t:=by
 rw [<- List.head?_eq_getElem?,List.head?_reverse];exact h
structure Ends (l st su:List Pt) (lo hi:Pt):Prop where
 b:Both l st su
 h1:st.head? = some hi
 h2:st.getLast? = some lo
 h3:su.head? = some lo
 h4:su.getLast? = some hi
 ne:lo≠hi
 lo_l:lo∈l
 hi_l:hi∈l
 least:∀ q∈l,q=lo\/lt lo q
 most:∀ q∈l,q=hi\/lt q hi
theorem two_of {st:List Pt} {a b:Pt} (ha:st.head? = some a) (hb:st.getLast? = some b) (h:b≠a):2<=st.length:=by
 match st,ha,hb with
 | [x],ha,hb=>cases ha;cases hb;exact absurd rfl h
 | x::y::r,_,_=>simp
theorem Ends.step {l st su:List Pt} {lo hi:Pt} (E:Ends l st su lo hi) {i:Nat} (hR:i<(st.reverse.dropLast++su.reverse.dropLast).length) {a b:Pt} (ha:(st.reverse.dropLast++su.reverse.dropLast)[i]? = some a)
  (hb:(st.reverse.dropLast++su.reverse.dropLast)[(i+1)%(st.reverse.dropLast++su.reverse.dropLast).length]? = some b):Edge a b st\/Edge a b su:=by
 have n1:=two_of E.h1 E.h2 E.ne;have n2:=two_of E.h3 E.h4 (Wh E.ne);have l1:=zmu E.h1;have l2:=zjt E.h2;have l3:=zmu E.h3;have l4:=zjt E.h4;have len:(st.reverse.dropLast++su.reverse.dropLast).length=(st.length-1)+(su.length-1):=by simp
 rw [len] at hR hb;have gU:∀ j,j<st.length-1->(st.reverse.dropLast++su.reverse.dropLast)[j]? = st.reverse[j]?:=fun j hj=>by
  rw [Z9 (by simpa using hj),Uv,if_pos (by simpa using hj)]
 have gV:∀ j,j<su.length-1->(st.reverse.dropLast++su.reverse.dropLast)[(st.length-1)+j]? = su.reverse[j]?:=fun j hj=>by
  rw [Z0 (by simp),Uv];simp only [Kh,Yz,Nat.add_sub_cancel_left];rw [if_pos hj]
 by_cases c:i<st.length-1
 ·left
  rw [gU i c] at ha;by_cases c2:i+1<st.length-1
  ·rw [Zo (by omega),gU (i+1) c2] at hb;exact zao ha hb
  ·have e:i+1=st.length-1:=by omega
   rw [Zo (by omega),e] at hb;have:=gV 0 (by omega)
   rw [Nat.add_zero] at this;rw [this,l4] at hb;rw [<- e] at l1;cases hb;exact zao ha l1
 ·right
  obtain⟨j,rfl⟩:∃ j,i=(st.length-1)+j:=⟨i-(st.length-1),by omega⟩
  rw [gV j (by omega)] at ha;by_cases c2:j+1<su.length-1
  ·rw [Zo (by omega),Nat.add_assoc,gV (j+1) c2] at hb;exact zao ha hb
  ·have e:j+1=su.length-1:=by omega
   have em:(st.length-1+j+1)%(st.length-1+(su.length-1))=0:=by
    rw [show st.length-1+j+1=st.length-1+(su.length-1) by omega];exact Q9 _
   rw [em,gU 0 (by omega),l2] at hb;rw [<- e] at l3;cases hb;exact zao ha l3
end Hu
namespace DL
open Sf
def fr (x:Rat):D:=.tup [.int x.num,.int (x.den:Int)]
theorem ixf0 {z:Rat}:ixD (fr z) (.int 0)=some (.int z.num):=rfl
theorem ixf1 {z:Rat}:ixD (fr z) (.int 1)=some (.int (z.den:Int)):=rfl
theorem lff {z:Rat}:lf (fr z)=true:=rfl
local macro_rules | `(tactic| walk_at "evh")=>do
 let l ← ("run_eq ycl zwa zud zuc ex_asg asgO_s unpO_s ex_par parO_s ex_ret retO_s ycn yaq yap ex_iff iffO_t iffO_f ex_whl ex_frr forO_s ycx yai yah yag zom yam yal ycy ybf ybg evB_eq ev_var ev_int ev_bl ev_non ev_bin ev_neg ev_cmp ev_or ev_tup ev_lst ev_ix ev_sl yct ev_bi isiW_i isiW_b isiW_t isiW_l isiW_n isxW_n ex_app appO_s popO_s clrO_s ycm yaf ev_fm lcpW yaa blkR id_eq zsr zsq zac setE_0 setE_s ycr ycu zwb zwc seqB_l seqB_t seqB_o seqD zru zne ycq ycp evd evb bin2_s un1_s andO_t andO_f orO_t orO_f appL_s ydb slO_s cmpW ixW negW notW_s tupW lstW varD_0 varD_s zto zpb zxo zxn zww znm zca yec yed yeb after lfW lf lfL Wd_v Wd_n Wb_v Wb_n Bd_s Bd_o DL.op_add DL.op_sub DL.op_mul DL.op_fdiv DL.op_mod B9 zhv B5 Go op_p9 op_p18 eqL eqD dOkL dOk beq_self_eq_true Bool.and_self op_p60 Int.reduceEq Int.reduceLT Int.reduceLE Int.reduceNeg Int.reduceAdd Int.reduceSub Int.reduceMul Int.reduceToNat Int.reducePow Int.reduceMod Int.reduceDiv cs0 cs1 cs2 cs3 cs4 cs5 cs6 cs7 cs8 cs9 cs10 cs11 cs12 Nat.reduceSub cm_lt cm_le cm_gt cm_ge cm_eq cm_ne cm_eqB cm_neB cm_eqT cm_eqL cm_in cm_isN ydk biW lenW absW minW maxW ixD_t ixD_l ixf0 ixf1 lff slD_l ycz zza isTy zdq Yk Kp List.cons_append List.nil_append Qv Zu Kj Qu Y8 List.set_cons_zero List.set_cons_succ Wk Option.map_none Yy Jp List.replicate if_true if_false Nat.reduceAdd Nat.reduceLT Nat.reduceLeDiff Y3 reduceCtorEq decide_true decide_false Bool.not_true Bool.not_false Bool.and_true Bool.true_and Bool.and_false Bool.false_and ne_eq not_false_eq_true and_self and_true true_and Nat.reduceEqDiff Nat.zero_ne_one Nat.one_ne_zero sl0 sl1 sl2 sl3 sl4 sl6 at1_0 at2_0 at2_1 at3_0 at3_1 at3_2 at4_0 at4_1 at4_2 at4_3 at5_0 at5_1 at5_2 at5_3 at5_4 at6_0 at6_1 at6_2 at6_3 at6_4 at6_5 ev_idx ycv zgv sumW".splitOn " ").toArray.mapM fun s=>`(Lean.Parser.Tactic.simpLemma| $(Lean.mkIdent s.toName):term)
 `(tactic| simp only [$l,*, *])
open Sf
def dTup:D->Option (List D)
 | .tup l=>some l
 | _=>none
def dTwo:List D->Option (D×D)
 | [a,b]=>some (a,b)
 | _=>none
theorem dTup_s {d:D} {l:List D} (h:dTup d=some l):d=.tup l:=by cases d <;> first | (cases h;rfl) | (cases h;done)
theorem dTwo_s {l:List D} {p:D×D} (h:dTwo l=some p):l=[p.1,p.2]:=by
 cases l with
 | nil=>cases h
 | cons a l=>
  cases l with
  | nil=>cases h
  | cons b l=>
   cases l with
   | nil=>cases h;rfl
   | cons _ _=>cases h
def asFr (d:D):Option Rat:=(dTup d).bind fun l=>(dTwo l).bind fun z=>(dInt z.1).bind fun p=>(dInt z.2).bind fun q=>if 0<q/\Int.gcd p q=1 then some (Rat.divInt p q) else none
theorem ydx (x:Rat):asFr (fr x)=some x:=by
 have f:=zam x;show (if 0<(x.den:Int)/\Int.gcd x.num (x.den:Int)=1 then some (Rat.divInt x.num (x.den:Int)) else none)=some x;rw [if_pos ⟨f.pos,f.co⟩,Yd]
theorem zkd {d:D} {x:Rat} (h:asFr d=some x):d=fr x:=by
 obtain⟨l,h1,h⟩:=Za.mp h
 obtain⟨z,h2,h⟩:=Za.mp h
 obtain⟨p,h3,h⟩:=Za.mp h
 obtain⟨q,h4,h⟩:=Za.mp h
 split at h
 ·rename_i y;cases h;obtain⟨a,b⟩:=rat_of ⟨y.1,y.2⟩
  rw [dTup_s h1,dTwo_s h2,zbc h3,zbc h4];unfold fr;rw [a,b]
 ·cases h
def okR (x:Rat):Bool:=decide (x.num.natAbs<2^4400) && decide (x.den<2^4400)
theorem zyb {n:Nat} {x:Rat} (h:Sz n x) (k:n<=4400):okR x=true:=by
 have:=h.mono k
 unfold okR;rw [Zl];exact⟨decide_eq_true this.t,decide_eq_true this.b⟩
theorem zya {x:Rat} (h:okR x=true):Sz 4400 x:=by
 unfold okR at h;rw [Zl] at h;exact⟨of_decide_eq_true h.1,of_decide_eq_true h.2⟩
theorem Gk {a b:Int} {m n:Nat} (ha:a.natAbs<2^m) (hb:b.natAbs<2^n) (hm:m<=16000) (hn:n<=16000):Gp a b=true:=by
 unfold Gp;rw [Zl];exact⟨decide_eq_true (Zd ha (Gc hm)),decide_eq_true (Zd hb (Gc hn))⟩
theorem zaa {b:Int} {n:Nat} (h0:b≠0) (hb:b.natAbs<2^n) (hn:n<=9000):zaf b=true:=by
 unfold zaf;rw [Zl];exact⟨decide_eq_true h0,decide_eq_true (Zd hb (Gc hn))⟩
section
variable {Γ:Nat->List D->Option W}
def Gz:List D->Option W
 | [.int a,.int b]=>some (.val (.int (gc a b)))
 | _=>none
theorem zpa (a b:Option B):∀ (m:Nat) (n:Nat),n<=m->∀ (g:Int) (r:Option B),0<=g->∃ r',G3 (evB Γ (.cmp .ne (.var 3) (.int 0))) (exs Γ (.cons (.asg 4 (.bin .mod (.var 2) (.var 3))) (.cons (.asg 2 (.var 3)) (.cons (.asg 3 (.var 4)) .nil)))) (m+1)
  [a,b,some (.sh (.int g)),some (.sh (.int (n:Int))),r]=some (.nx [a,b,some (.sh (.int (gc g n))),some (.sh (.int 0)),r']):=by
 intro m;induction m with
 | zero=>
  intro n hn g r hg;obtain rfl:n=0:=by omega
  refine⟨r,?_⟩
  unfold G3;walk_at "evh"
  simp [zhs hg]
 | succ m ih=>
  intro n hn g r hg;unfold G3;walk_at "evh"
  by_cases h0:n=0
  ·subst h0;refine⟨r,?_⟩
   simp [zhs hg]
  ·have h1:¬ ((n:Int)=0):=by omega
   simp only [h1,decide_false,Bool.not_false,if_false];walk_at "evh"
   have e:g.fmod (n:Int)=((g%(n:Int)).toNat:Int):=by
    rw [Qi _ (by omega)];have:=Wr g h1
    omega
   have l:(g%(n:Int)).toNat<=m:=by
    have:=Qx g (show (0:Int)<n by omega)
    have:=Wr g h1
    omega
   obtain⟨r',q⟩:=ih _ l (n:Int) (some (.sh (.int ((g%(n:Int)).toNat:Int)))) (by omega)
   refine⟨r',?_⟩
   rw [e,q];have e2:(((g%(n:Int)).toNat:Nat):Int)=g%n:=by have:=Wr g h1;omega
   rw [e2,zlc]
theorem zee (b:Int):(if b<0 then -b else b)=((b.natAbs:Nat):Int):=by split <;> omega
theorem ok_divisor:∀ ds w,ds.length=2->Gz ds=some w->run Γ zcr 5 ds=some w:=by
 intro ds w _ h;unfold Gz at h;split at h
 ·rename_i a b _;cases h;unfold zcr;walk_at "evh"
  obtain⟨r',q⟩:=zpa (Γ:=Γ) (some (.sh (.int a))) (some (.sh (.int b))) b.natAbs b.natAbs (Zj _) (if a<0 then -a else a) none (by split <;> omega)
  rw [zee b,zcd q];walk_at "evh"
  rw [<- zee b,zym]
 ·cases h
theorem zgy:∀ (m:Nat) (n:Nat),n<=m->∀ (g:Int),0<=g->G3 (evB Γ (.cmp .gt (.var 1) (.int 0))) (exs Γ (.cons (.par 0 1 (.var 1) (.bin .mod (.var 0) (.var 1))) .nil)) (m+1)
  [some (.sh (.int g)),some (.sh (.int (n:Int)))]=some (.nx [some (.sh (.int (gc g n))),some (.sh (.int 0))]):=by
 intro m;induction m with
 | zero=>
  intro n hn g hg;obtain rfl:n=0:=by omega
  unfold G3;walk_at "evh"
  simp [zhs hg]
 | succ m ih=>
  intro n hn g hg;unfold G3;walk_at "evh"
  by_cases h0:n=0
  ·subst h0;simp [zhs hg]
  ·have h1:¬ ((n:Int)=0):=by omega
   have h2:(0:Int)<n:=by omega
   simp only [h1,h2,decide_true,if_false];walk_at "evh"
   have e:g.fmod (n:Int)=((g%(n:Int)).toNat:Int):=by
    rw [Qi _ (by omega)];have:=Wr g h1
    omega
   have l:(g%(n:Int)).toNat<=m:=by
    have:=Qx g (show (0:Int)<n by omega)
    have:=Wr g h1
    omega
   have q:=ih _ l (n:Int) (by omega);have e2:(((g%(n:Int)).toNat:Nat):Int)=g%n:=by have:=Wr g h1;omega
   rw [e2] at q;first
    | (rw [e,e2,q,zlc])
    | (rw [q,zlc])
theorem ok_law_divisor:∀ ds w,ds.length=2->Gz ds=some w->run Γ B0 2 ds=some w:=by
 intro ds w _ h;unfold Gz at h;split at h
 ·rename_i a b _;cases h;unfold B0;walk_at "evh"
  have q:=zgy (Γ:=Γ) b.natAbs b.natAbs (Zj _) (if a<0 then -a else a) (by split <;> omega);rw [zee b,zcd q];walk_at "evh"
  rw [<- zee b,zym]
 ·cases h
end
set_option exponentiation.threshold 20000
open Sf
theorem zbk {a b:Int}:Gz [.int a,.int b]=some (.val (.int (gc a b))):=rfl
section
variable {Γ:Nat->List D->Option W}
def zdh:List D->Option W
 | [.int t,.int b]=>if b≠0/\b.natAbs<2^9000 then some (.val (fr (Rat.divInt t b))) else none
 | _=>none
theorem yci {t b:Int} (h:b≠0):(gc t b).natAbs<=b.natAbs:=by
 have:=W5 t b
 exact G2 this h
theorem zng {t b:Int} (h:b≠0) (hb:b.natAbs<2^9000):zaf (gc t b)=true/\zaf (-(gc t b))=true:=by
 have p:=zfj (a:=t) h;have l:=yci (t:=t) h;exact⟨zaa (n:=9000) (by omega) (by omega) (Zj _),zaa (n:=9000) (by omega) (by rw [Int.natAbs_neg];omega) (Zj _)⟩
theorem zyp {t b:Int} (h:b≠0):fr (Rat.divInt t b)=.tup [.int (low1 t b),.int (low2 t b)]:=by
 obtain⟨a,c⟩:=ybx (t:=t) h
 unfold fr;rw [a,c]
theorem ok_ratio (h0:Γ 0=Gz):∀ ds w,ds.length=2->zdh ds=some w->run Γ zik 3 ds=some w:=by
 intro ds w _ h;unfold zdh at h;split at h
 ·rename_i t b _;split at h
  ·rename_i z;cases h;unfold zik;walk_at "evh"
   try simp only [z.1,decide_false]
   try walk_at "evh"
   simp only [h0,zbk];walk_at "evh"
   obtain⟨g1,g2⟩:=zng (t:=t) z.1 z.2
   rw [zyp z.1];unfold low1 low2 by_;by_cases hb:b<0
   ·simp only [hb,decide_true];walk_at "evh"
    try simp only [g2]
    try walk_at "evh"
   ·simp only [hb,decide_false];walk_at "evh"
    try simp only [g1]
    try walk_at "evh"
  ·cases h
 ·cases h
def fr2 (C:Rat->Rat->Bool) (g:Rat->Rat->D):List D->Option W
 | [a,b]=>match asFr a,asFr b with
  | some x,some y=>if C x y=true then some (.val (g x y)) else none
  | _,_=>none
 | _=>none
theorem zan {C:Rat->Rat->Bool} {g:Rat->Rat->D} {ds:List D} {w:W} (h:fr2 C g ds=some w):∃ x y,ds=[fr x,fr y]/\C x y=true/\w=.val (g x y):=by
 unfold fr2 at h;split at h
 ·split at h
  ·rename_i x y hx hy;split at h
   ·rename_i z;cases h;exact⟨x,y,by rw [zkd hx,zkd hy],z,rfl⟩
   ·cases h
  ·cases h
 ·cases h
theorem G0 {C:Rat->Rat->Bool} {g:Rat->Rat->D} {x y:Rat} (h:C x y=true):fr2 C g [fr x,fr y]=some (.val (g x y)):=by
 unfold fr2;simp only [ydx,h,if_true]
def okRR (x y:Rat):Bool:=okR x && okR y
theorem Gn {m n:Nat} {x y:Rat} (hx:Sz m x) (hy:Sz n y) (hm:m<=4400) (hn:n<=4400):okRR x y=true:=by
 unfold okRR;rw [zyb hx hm,zyb hy hn];rfl
theorem zbx {x y:Rat} (h:okRR x y=true):Sz 4400 x/\Sz 4400 y:=by
 unfold okRR at h;rw [Zl] at h;exact⟨zya h.1,zya h.2⟩
def zau:List D->Option W:=fr2 okRR fun x y=>fr (x+y)
def Bo:List D->Option W:=fr2 okRR fun x y=>fr (x-y)
def Bl:List D->Option W:=fr2 okRR fun x y=>fr (x*y)
def zoh:List D->Option W:=fr2 (fun x y=>okRR x y && decide (y≠0)) fun x y=>fr (x/y)
theorem Ba (x:Rat):(0:Int)<x.den:=(zam x).pos
theorem ok_plus (h0:Γ 0=Gz):∀ ds w,ds.length=2->zau ds=some w->run Γ zno 5 ds=some w:=by
 intro ds w _ h;obtain⟨x,y,rfl,hC,rfl⟩:=zan h
 obtain⟨sx,sy⟩:=zbx hC
 have px:=Ba x;have py:=Ba y;have hne:(y.den:Int)≠0:=by omega
 have gp:=zfj (a:=(x.den:Int)) hne;have gl:=yci (t:=(x.den:Int)) hne;have e1:((y.den:Int)).natAbs=y.den:=Ye _;have d1:zaf (gc x.den y.den)=true:=zaa (n:=4400) (by omega) (by have:=sy.b;omega) (by decide);have hle:∀ {p s:Int},0<s->(p.fdiv s).natAbs<=p.natAbs:=fun {p s} hs=>by
  rw [Kq _ (Wl hs)];have:=Int.natAbs_ediv_le_natAbs p s
  exact this
 have l1:=hle (p:=(y.den:Int)) gp;have l2:=hle (p:=(x.den:Int)) gp;have e2:((x.den:Int)).natAbs=x.den:=Ye _;have m1:Gp x.num ((y.den:Int).fdiv (gc x.den y.den))=true:=Gk sx.t (n:=4400) (by have:=sy.b;omega) (by decide) (by decide);have m2:Gp y.num ((x.den:Int).fdiv (gc x.den y.den))=true:=Gk sy.t (n:=4400) (by have:=sx.b;omega) (by decide) (by decide);have hne2:gc (x.den:Int) y.den≠0:=by omega
 have rp:=zfj (a:=addT x.num x.den y.num y.den) hne2;have rl:=yci (t:=addT x.num x.den y.num y.den) hne2;have d2:zaf (gc (addT x.num x.den y.num y.den) (gc x.den y.den))=true:=zaa (n:=4400) (by omega) (by have:=sy.b;omega) (by decide);have l3:=hle (p:=(y.den:Int)) rp;have m3:Gp ((x.den:Int).fdiv (gc x.den y.den)) ((y.den:Int).fdiv (gc (addT x.num x.den y.num y.den) (gc x.den y.den)))=true:=Gk (m:=4400) (n:=4400) (by have:=sx.b;omega) (by have:=sy.b;omega) (by decide) (by decide);obtain⟨q1,q2⟩:=yee x y
 have eT:x.num*(y.den:Int).fdiv (gc x.den y.den)+y.num*(x.den:Int).fdiv (gc x.den y.den)=addT x.num x.den y.num y.den:=rfl;have hd:=@zbk;clear hC h px py sx sy hne gp gl hne2 rp rl l1 l2 l3 hle;unfold zno;simp only [fr];walk_at "evh"
 rfl
theorem ok_minus (h9:Γ 9=zau):∀ ds w,ds.length=2->Bo ds=some w->run Γ zil 2 ds=some w:=by
 intro ds w _ h;obtain⟨x,y,rfl,hC,rfl⟩:=zan h
 obtain⟨sx,sy⟩:=zbx hC
 unfold zil;simp only [fr];walk_at "evh"
 have e:(D.tup [.int (-y.num),.int (y.den:Int)])=fr (-y):=rfl;have e2:(D.tup [.int x.num,.int (x.den:Int)])=fr x:=rfl;have q:zau [fr x,fr (-y)]=some (.val (fr (x + -y))):=G0 (Gn sx sy.neg (Zj _) (Zj _));simp only [h9,e,e2,q];walk_at "evh"
 rw [Jk];rfl
theorem ok_times (h1:Γ 1=zdh):∀ ds w,ds.length=2->Bl ds=some w->run Γ zij 2 ds=some w:=by
 intro ds w _ h;obtain⟨x,y,rfl,hC,rfl⟩:=zan h
 obtain⟨sx,sy⟩:=zbx hC
 have px:=Ba x;have py:=Ba y;have m1:Gp x.num y.num=true:=Gk sx.t sy.t (by decide) (by decide);have m2:Gp (x.den:Int) y.den=true:=Gk (m:=4400) (n:=4400) (by rw [Ye];exact sx.b) (by rw [Ye];exact sy.b) (by decide) (by decide);have hb:((x.den:Int)*y.den).natAbs<2^9000:=by
  rw [Ym,Ye,Ye];exact Zd (Bw sx.b sy.b) (Gc (by decide))
 have hne:(x.den:Int)*y.den≠0:=Zz (by omega) (by omega);unfold zij;simp only [fr];walk_at "evh"
 try simp only [m1,m2]
 try walk_at "evh"
 have q:zdh [.int (x.num*y.num),.int ((x.den:Int)*y.den)]=some (.val (fr (x*y))):=by
  show (if _ then _ else _)=_;rw [if_pos ⟨hne,hb⟩,<- zkx]
 simp only [h1,q];walk_at "evh"
 rfl
end
set_option exponentiation.threshold 20000
open Sf
section
variable {Γ:Nat->List D->Option W}
def isInt:D->Bool
 | .int _=>true
 | _=>false
end
set_option exponentiation.threshold 20000
open Sf
section
variable {Γ:Nat->List D->Option W}
theorem G5 {a b:Int} {m n:Nat} (h:a.natAbs<2^m) (k:b.natAbs<2^n):(a*b).natAbs<2^(m+n):=by
 rw [Ym];exact Bw h k
end
set_option exponentiation.threshold 20000
open Sf
section
variable {Γ:Nat->List D->Option W}
end
open Sf
section
variable {Γ:Nat->List D->Option W}
def per (c:Int):Int:=match (c%4).toNat with
 | 0=>1
 | 1=>3
 | 2=>1000000000
 | _=>1000000000000000000
end
open Sf
section
variable {Γ:Nat->List D->Option W}
end
open Sf
section
variable {Γ:Nat->List D->Option W}
end
open Sf
section
variable {Γ:Nat->List D->Option W}
theorem V9 {x:Rat} {n:Nat} (h:Sz n x):((x.den:Int)).natAbs<2^n:=by rw [Ye];exact h.b
theorem zvl (x y:Rat):decide (x<y)=decide (x.num*(y.den:Int)<y.num*(x.den:Int)):=by
 rw [Kn];simp only [decide_eq_true_eq];exact Rat.lt_iff x y
theorem num_zero {y:Rat}:y.num=0↔y=0:=Rat.num_eq_zero
theorem ok_over (h1:Γ 1=zdh):∀ ds w,ds.length=2->zoh ds=some w->run Γ znp 2 ds=some w:=by
 intro ds w _ h;obtain⟨x,y,e,hc,hw⟩:=zan h
 subst e;subst hw;rw [Zl] at hc;obtain⟨sx,sy⟩:=zbx hc.1
 have y0:y≠0:=of_decide_eq_true hc.2;have n0:y.num≠0:=fun z=>y0 (num_zero.mp z)
 have m1:Gp x.num (y.den:Int)=true:=Gk sx.t (V9 sy) (by decide) (by decide);have m2:Gp (x.den:Int) y.num=true:=Gk (V9 sx) sy.t (by decide) (by decide);have b0:(x.den:Int)*y.num≠0:=fun z=>by
  rcases Int.mul_eq_zero.mp z with z | z
  ·have:=Ba x;omega
  ·exact n0 z
 have r:zdh [.int (x.num*y.den),.int (x.den*y.num)]=some (.val (fr (x/y))):=by
  unfold zdh;simp only
  rw [if_pos ⟨b0,by rw [Ym];exact Zd (Bw (V9 sx) sy.t) (Gc (by decide))⟩,zrv y0]
 clear sx sy hc b0 n0 y0 h;unfold znp;walk_at "evh"
end
open Sf
section
variable {Γ:Nat->List D->Option W}
theorem zta {α:Type} {l:List α} {i:Int} (h0:0<=i) (h1:i<l.length):L2.atI l i=l[i.toNat]?:=by
 unfold L2.atI L2.ixN;rw [if_pos h0,if_pos h1,Yy]
end
open Sf
structure Bd (n:Int) (p:Int×Int):Prop where
 a : -n<=p.1
 b:p.1<=n
 c : -n<=p.2
 d:p.2<=n
structure Pts (ps:List (Int×Int)):Prop where
 three:3<=ps.length
 bd:∀ p∈ps,Bd 2000 p
 left:∃ o p q,o∈ps/\p∈ps/\q∈ps/\0<(p.1-o.1)*(q.2-o.2)-(p.2-o.2)*(q.1-o.1)
theorem Bd.up {p:Int×Int} (h:Bd 1000 p):Bd 2000 p:=by
 obtain⟨a,b,c,d⟩:=h
 exact⟨by omega,by omega,by omega,by omega⟩
theorem Bd.nx {p:Int×Int} {x y:Int} (h:Bd 1000 p) (hx : -2<=x/\x<=2) (hy : -4<=y/\y<=4):Bd 2000 (p.1+x,p.2+y):=by
 obtain⟨a,b,c,d⟩:=h
 exact⟨by show _<=_;omega,by show _<=_;omega,by show _<=_;omega,by show _<=_;omega⟩
section
variable {Γ:Nat->List D->Option W}
end
open Sf
def kP (p:Int×Int):List Int:=[p.1,p.2]
def pK:List Int->Int×Int
 | [a,b]=>(a,b)
 | _=>(0,0)
def zui (ps:List (Int×Int)):List (Int×Int):=(ssK (ps.map kP)).map pK
theorem mem_kP {ps:List (Int×Int)} {k:List Int} (h:k∈ssK (ps.map kP)):∃ p∈ps,k=kP p:=by
 obtain⟨p,hp,e⟩:=Zv.mp (ssK_mem.mp h)
 exact⟨p,hp,e.symm⟩
theorem sortP_mem {ps:List (Int×Int)} {x:Int×Int}:x∈zui ps↔x∈ps:=by
 unfold zui;rw [Zv];constructor
 ·rintro⟨k,hk,e⟩
  obtain⟨p,hp,e2⟩:=mem_kP hk
  subst e2;rw [<- e];exact hp
 ·intro h;exact⟨kP x,ssK_mem.mpr (Y4 h),rfl⟩
section
variable {Γ:Nat->List D->Option W}
end
open Sf
def stD (q:Rat×Rat):D:=.tup [fr q.1,fr q.2]
theorem lf_stD (q:Rat×Rat):lf (stD q)=true:=rfl
def spot (b f s:Int) (p:Int×Int):Rat×Rat:=(Rat.divInt (p.1*b+f) s,Rat.divInt (p.2*b-2*f) s)
structure ShapeBy (m:Nat) (l:List (Rat×Rat)) (ps:List (Int×Int)) (b f s:Int):Prop where
 pts:Pts ps
 len:ps.length<=m
 b0:1<=b
 b1:b<=1000000000
 f0 : -1000000000000000000<=f
 f1:f<=1000000000000000000
 s0:1<=s
 s1:s<=1000000000
 eq:l=(Hu.ring (zui ps)).map (spot b f s)
theorem zby:∀ l:List (Rat×Rat),lfL (l.map stD)=true
 | []=>rfl
 | p::l=>by rw [Yk];unfold lfL;rw [lf_stD,zby l];rfl
section
variable {Γ:Nat->List D->Option W}
theorem zmh (p:Hu.Pt):∀ (l:List Hu.Pt),∀ c∈Hu.popw p l,c∈l
 | [],c,h=>h
 | [_],c,h=>h
 | b::a::r,c,h=>by
  unfold Hu.popw at h;split at h
  ·exact .tail _ (zmh p (a::r) c h)
  ·exact h
theorem zii:∀ (l st:List Hu.Pt),∀ c∈Hu.bent st l,c∈st\/c∈l
 | [],st,c,h=>.inl h
 | p::l,st,c,h=>by
  rcases zii l _ c h with q | q
  ·rcases Zf.mp q with q | q
   ·exact .inr (q ▸ .head _)
   ·exact .inl (zmh p st c q)
  ·exact .inr (.tail _ q)
theorem zuv {l:List Hu.Pt}:∀ c∈Hu.ring l,c∈l:=fun c h=>by
 unfold Hu.ring at h;rcases Ys.mp h with q | q
 ·have:=U6 _ q
  rw [W9] at this;rcases zii _ _ _ this with q | q
  ·cases q
  ·exact q
 ·have:=U6 _ q
  rw [W9] at this;rcases zii _ _ _ this with q | q
  ·cases q
  ·exact W9.mp q
end
open Sf
mutual
theorem znf:∀ (n:Nat) (d:D),dOk n d=true->eqD d d=true
 | _,.non,_=>rfl
 | _,.bl b,_=>by simp only [eqD,beq_self_eq_true]
 | _,.int i,_=>by simp [eqD]
 | 0,.tup l,h=>by simp only [dOk] at h;cases h
 | n+1,.tup l,h=>by
  simp only [dOk] at h;simp only [eqD];exact eqL_self n l h
 | 0,.lst l,h=>by simp only [dOk] at h;cases h
 | n+1,.lst l,h=>by
  simp only [dOk] at h;simp only [eqD];exact eqL_self n l h
 | _,.exc x,h=>by simp only [dOk] at h;cases h
theorem eqL_self:∀ (n:Nat) (l:List D),dOkL n l=true->eqL l l=true
 | _,[],_=>by simp only [eqL]
 | n,d::l,h=>by
  simp only [dOkL,Zl] at h;simp only [eqL,Zl];exact⟨znf n d h.1,eqL_self n l h.2⟩
end
theorem zju:∀ l:List (Rat×Rat),dOkL 49 (l.map stD)=true
 | []=>rfl
 | q::l=>by
  rw [Yk];unfold dOkL;rw [zju l];rfl
def SzL (n:Nat) (l:List (Rat×Rat)):Prop:=∀ q∈l,Sz n q.1/\Sz n q.2
section
variable {Γ:Nat->List D->Option W}
def zat:List D->Option W:=run (tab [(11,Bl)]) zdc 2
theorem ok_sized (h11:Γ 11=Bl):∀ ds w,ds.length=2->zat ds=some w->run Γ zdc 2 ds=some w:=fun ds w _ h=>zay [(11,Bl)] (by intro p hp;rcases Zn.mp hp with rfl;exact h11) (by decide) ds w h
theorem zet {l:List (Rat×Rat)} {x:Rat} (hl:l.length<=1000) (hz:SzL 2000 l) (hx:Sz 2000 x) (h0:0<x.num):zat [.lst (l.map stD),fr x]=some (.new ((l.map fun q=>(q.1*x,q.2*x)).map stD)):=by
 unfold zat;generalize hΓ:tab [(11,Bl)]=Γ;have h11:Γ 11=Bl:=by rw [<- hΓ];rfl
 have hn:decide (x.num<=0)=false:=decide_eq_false (by omega);have hcomp:ev Γ (.comp (.tup (.cons (.call 11 (.cons (.var 1) (.cons (.var 3) .nil))) (.cons (.call 11 (.cons (.var 2) (.cons (.var 3) .nil))) .nil))) (.tup [1,2]) (.seqV 0) 3 [1] .non) [some (.lst (l.map stD)),some (fr x)]=some (.new (l.map fun q=>stD (q.1*x,q.2*x))):=by
  refine zaq (g:=stD) ?_ (by rw [Qy];omega) rfl fun q hq=>?_
  ·clear hz hx h0 hn hΓ;walk_at "evh"
  ·have t1:Bl [fr q.1,fr x]=some (.val (fr (q.1*x))):=G0 (Gn (hz q hq).1 hx (by decide) (by decide));have t2:Bl [fr q.2,fr x]=some (.val (fr (q.2*x))):=G0 (Gn (hz q hq).2 hx (by decide) (by decide));have q1:stD (q.1*x,q.2*x)=.tup [fr (q.1*x),fr (q.2*x)]:=rfl;have q2:stD q=.tup [fr q.1,fr q.2]:=rfl;rw [q1,q2];clear hz hx h0 hn hΓ hq q1 q2 hl;walk_at "evh"
 rw [Wb];show run Γ zdc 2 _=some (.new (l.map fun q=>stD (q.1*x,q.2*x)));generalize (l.map fun q=>stD (q.1*x,q.2*x))=O at *;unfold zdc;generalize hce:E.comp _ _ _ _ _ _=ce at *;clear hz hx h0 hΓ hl hce;walk_at "evh"
end
open Sf
section
variable {Γ:Nat->List D->Option W}
end
open Sf
theorem znc {bt:D->RhoS->Option RhoS} {fb:RhoS->Option Out} {I:RhoS->Prop}:∀ (l:List D),(∀ d∈l,∀ ρ,I ρ->∃ ρ1 ρ2,bt d ρ=some ρ1/\fb ρ1=some (.nx ρ2)/\I ρ2)->∀ ρ,I ρ->∃ ρ',forN bt fb l ρ=some (.nx ρ')/\I ρ'
 | [],_,ρ,h=>⟨ρ,rfl,h⟩
 | d::l,hs,ρ,h=>by
  obtain⟨ρ1,ρ2,e1,e2,h2⟩:=hs d (.head _) ρ h
  obtain⟨ρ',e3,h3⟩:=znc l (fun x hx=>hs x (.tail _ hx)) ρ2 h2
  refine⟨ρ',?_,h3⟩
  unfold forN;rw [e1];simp only
  rw [e2];exact e3
abbrev H3:=Int×Int×Int
def hD (h:H3):D:=.tup [.int h.1,.int h.2.1,.int h.2.2]
structure HB (n:Nat) (h:H3):Prop where
 a:h.1.natAbs<2^n
 b:h.2.1.natAbs<2^n
 c:h.2.2.natAbs<2^n
def oR (a b c:Rat×Rat):Rat:=(b.1-a.1)*(c.2-a.2)-(b.2-a.2)*(c.1-a.1)
def ltR (a b:Rat×Rat):Prop:=a.1<b.1\/(a.1=b.1/\a.2<b.2)
theorem cast_pos {i:Int}:(0:Rat)<(i:Rat)↔0<i:=by
 rw [show (0:Rat)=((0:Int):Rat) from rfl,Q0]
theorem zmq (x:Rat):(x.num:Rat)=x*((x.den:Int):Rat):=by
 have hp:=cast_pos.mpr (Ba x);have h:((x.den:Int):Rat)≠0:=fun z=>by rw [z] at hp;exact absurd hp (by decide)
 have e:x=(x.num:Rat)/((x.den:Int):Rat):=by
  conv=>lhs;rw [<- Rat.mkRat_self x,Rat.mkRat_eq_div]
  rw [Rat.intCast_natCast]
 have e2:x*((x.den:Int):Rat)=(x.num:Rat)/((x.den:Int):Rat)*((x.den:Int):Rat):=by
  conv=>lhs;lhs;rw [e]
 rw [e2,Rat.div_mul_cancel h]
section
variable {Γ:Nat->List D->Option W}
structure IsShp (l:List (Rat×Rat)):Prop where
 three:3<=l.length
 first:∀ k q0 q,l[0]? = some q0->l[k+1]? = some q->ltR q0 q
 conv:∀ k a b c,l[(k+l.length-1)%l.length]? = some a->l[k]? = some b->c∈l->c≠a->c≠b->0<oR a b c
end
open Sf
section
variable {Γ:Nat->List D->Option W}
end
open Sf
section
variable {Γ:Nat->List D->Option W}
end
open Sf
theorem cut_to {l:List D} {a:Nat} (h:a<=l.length):cutD l none (some (a:Int))=l.take a:=by
 unfold cutD;rw [HT.sIx_none,HT.sIx_nat,Jc,K7,K9 h]
theorem zwf {l:List D} {a:Nat} (h:a<=l.length):cutD l (some (a:Int)) none=l.drop a:=by
 unfold cutD;rw [HT.sIx_none,HT.sIx_nat,K9 h,Qz (by rw [Yc];exact Zj _)]
section
variable {Γ Γ':Nat->List D->Option W}
end
open Sf
def t3 (a b c:Rat):H3:=(a.num*((b.den:Int)*(c.den:Int)),b.num*((a.den:Int)*(c.den:Int)),c.num*((a.den:Int)*(b.den:Int)))
def g3 (t:H3):Int:=gc (gc (gc 0 t.1) t.2.1) t.2.2
def low3 (a b c:Rat):H3:=((t3 a b c).1.fdiv (g3 (t3 a b c)),(t3 a b c).2.1.fdiv (g3 (t3 a b c)),(t3 a b c).2.2.fdiv (g3 (t3 a b c)))
theorem zmz (t:H3):g3 t∣t.1/\g3 t∣t.2.1/\g3 t∣t.2.2:=by
 unfold g3 gc;have h1:=Ki (a:=((Int.gcd (Int.gcd 0 t.1:Int) t.2.1:Nat):Int)) (b:=t.2.2);have h2:=Ki (a:=((Int.gcd 0 t.1:Nat):Int)) (b:=t.2.1);have h3:=W5 (a:=0) (b:=t.1);have h4:=W5 (a:=((Int.gcd 0 t.1:Nat):Int)) (b:=t.2.1);have h5:=W5 (a:=((Int.gcd (Int.gcd 0 t.1:Int) t.2.1:Nat):Int)) (b:=t.2.2);exact⟨W8 h1 (W8 h2 h3),W8 h1 h4,h5⟩
theorem dvd_g3 {t:H3} {d:Int} (h1:d∣t.1) (h2:d∣t.2.1) (h3:d∣t.2.2):d∣g3 t:=by
 unfold g3 gc;exact Uk (Uk (Uk (Int.dvd_zero d) h1) h2) h3
theorem zyn {t:H3} (h:t.1≠0\/t.2.1≠0\/t.2.2≠0):0<g3 t:=by
 have nn:0<=g3 t:=Yl _;have ne:g3 t≠0:=fun e=>by
  obtain⟨d1,d2,d3⟩:=zmz t
  rw [e] at d1 d2 d3;have e1:=U7.mp d1;have e2:=U7.mp d2;have e3:=U7.mp d3;rcases h with h | h | h
  ·exact h e1
  ·exact h e2
  ·exact h e3
 omega
structure Low3 (a b c:Rat) (t:H3):Prop where
 co:gc (gc t.1 t.2.1) t.2.2=1
 scale:∃ k:Rat,0<k/\(t.1:Rat)=k*a/\(t.2.1:Rat)=k*b/\(t.2.2:Rat)=k*c
theorem zrf {a b c:Rat} (h:a≠0\/b≠0):Low3 a b c (low3 a b c):=by
 have da:=Ba a;have db:=Ba b;have dc:=Ba c;have hne:(t3 a b c).1≠0\/(t3 a b c).2.1≠0\/(t3 a b c).2.2≠0:=by
  rcases h with h | h
  ·left
   exact Zz (fun e=>h (num_zero.mp e)) (Zz (by omega) (by omega))
  ·right;left
   exact Zz (fun e=>h (num_zero.mp e)) (Zz (by omega) (by omega))
 have gp:=zyn hne;obtain⟨⟨x,e1⟩,⟨y,e2⟩,⟨z,e3⟩⟩:=zmz (t3 a b c)
 have f1:(t3 a b c).1.fdiv (g3 (t3 a b c))=x:=by
  conv=>lhs;lhs;rw [e1]
  exact Z7 _ (by omega)
 have f2:(t3 a b c).2.1.fdiv (g3 (t3 a b c))=y:=by
  conv=>lhs;lhs;rw [e2]
  exact Z7 _ (by omega)
 have f3:(t3 a b c).2.2.fdiv (g3 (t3 a b c))=z:=by
  conv=>lhs;lhs;rw [e3]
  exact Z7 _ (by omega)
 unfold low3;rw [f1,f2,f3];generalize hg:g3 (t3 a b c)=g at *;refine⟨?_,?_⟩
 ·have nn:0<=gc (gc x y) z:=gc_nn _ _;have d0:gc (gc x y) z∣z:=W5 _ _;have d1:gc (gc x y) z∣gc x y:=Ki _ _;have d2:gc (gc x y) z∣x:=W8 d1 (Ki _ _);have d3:gc (gc x y) z∣y:=W8 d1 (W5 _ _);simp only
  generalize gc (gc x y) z=d at *;have dg:g*d∣g3 (t3 a b c):=dvd_g3 (by rw [e1];exact Jd g d2) (by rw [e2];exact Jd g d3) (by rw [e3];exact Jd g d0);rw [hg] at dg;obtain⟨k,hk⟩:=dg
  have:d*k=1:=by
   apply Int.eq_of_mul_eq_mul_left (show g≠0 by omega)
   rw [<- Jm,<- hk,Ui]
  exact Int.eq_one_of_mul_eq_one_right nn this
 ·have gr:(0:Rat)<(g:Rat):=cast_pos.mpr gp;have gi:=Q5.mpr gr;have gne:(g:Rat)≠0:=fun e=>by rw [e] at gr;exact absurd gr (by decide)
  have A:=cast_pos.mpr da;have Bp:=cast_pos.mpr db;have Cp:=cast_pos.mpr dc;refine⟨((a.den:Int):Rat)*((b.den:Int):Rat)*((c.den:Int):Rat)*(g:Rat)⁻¹,Z2 (Z2 (Z2 A Bp) Cp) gi,?_,?_,?_⟩
  ·have q:((t3 a b c).1:Rat)=(g:Rat)*(x:Rat):=by rw [e1,Wq]
   have q2:((t3 a b c).1:Rat)=a*((a.den:Int):Rat)*(((b.den:Int):Rat)*((c.den:Int):Rat)):=by
    unfold t3;simp only [Wq];rw [zmq a]
   have q3:(x:Rat)=(g:Rat)⁻¹*((g:Rat)*(x:Rat)):=by rw [<- Uu,Jl _ gne,K3]
   simp only
   rw [q3,<- q,q2];grind
  ·have q:((t3 a b c).2.1:Rat)=(g:Rat)*(y:Rat):=by rw [e2,Wq]
   have q2:((t3 a b c).2.1:Rat)=b*((b.den:Int):Rat)*(((a.den:Int):Rat)*((c.den:Int):Rat)):=by
    unfold t3;simp only [Wq];rw [zmq b]
   have q3:(y:Rat)=(g:Rat)⁻¹*((g:Rat)*(y:Rat)):=by rw [<- Uu,Jl _ gne,K3]
   simp only
   rw [q3,<- q,q2];grind
  ·have q:((t3 a b c).2.2:Rat)=(g:Rat)*(z:Rat):=by rw [e3,Wq]
   have q2:((t3 a b c).2.2:Rat)=c*((c.den:Int):Rat)*(((a.den:Int):Rat)*((b.den:Int):Rat)):=by
    unfold t3;simp only [Wq];rw [zmq c]
   have q3:(z:Rat)=(g:Rat)⁻¹*((g:Rat)*(z:Rat)):=by rw [<- Uu,Jl _ gne,K3]
   simp only
   rw [q3,<- q,q2];grind
theorem t3_bd {n:Nat} {a b c:Rat} (ha:Sz n a) (hb:Sz n b) (hc:Sz n c):HB (n+(n+n)) (t3 a b c):=
 ⟨G5 ha.t (G5 (V9 hb) (V9 hc)),G5 hb.t (G5 (V9 ha) (V9 hc)),G5 hc.t (G5 (V9 ha) (V9 hb))⟩
section
variable {Γ:Nat->List D->Option W}
def zkz:List D->Option W:=run (tab [(0,Gz)]) G6 6
theorem ok_lowest_whole (h0:Γ 0=Gz):∀ ds w,ds.length=1->zkz ds=some w->run Γ G6 6 ds=some w:=fun ds w _ h=>zay [(0,Gz)] (by intro p hp;rcases Zn.mp hp with rfl;exact h0) (by decide) ds w h
theorem zle {x d y:Int} (hd:d≠0) (e:x=d*y):x.fdiv d=y:=by rw [e];exact Z7 _ hd
abbrev cLw:E:=(.comp (.bin .mul (.ix (.var 1) (.int 0)) (.bin .fdiv (.var 2) (.ix (.var 1) (.int 1)))) (.name 1) (.seqV 0) 2 [1] .non)
abbrev fLw:E:=(.fm .tupl (.cons (.comp (.bin .fdiv (.var 1) (.var 2)) (.name 1) (.seqV 3) 2 [4] .non) .nil))
theorem zvo (h0:Γ 0=Gz) {A1 B1 C1:D} {a b c u1 u2 u3 g:Int} {O:D} (ia:ixD A1 (.int 1)=some (.int a)) (ib:ixD B1 (.int 1)=some (.int b)) (ic:ixD C1 (.int 1)=some (.int c)) (lA:lf A1=true) (lB:lf B1=true) (lC:lf C1=true) (m0:Gp 1 a=true) (e0:1*a=a) (m1:Gp a b=true) (m2:Gp (a*b) c=true)
  (hT:∀ x y u v,ev Γ cLw [some (.tup [A1,B1,C1]),some (.int (a*b*c)),x,y,u,v]=some (.new [.int u1,.int u2,.int u3])) (hU:∀ x y z u,ev Γ fLw [x,y,z,some (.lst [.int u1,.int u2,.int u3]),some (.int g),u]=some (.val O)) (gE:gc (gc (gc 0 u1) u2) u3=g):run Γ G6 6 [.tup [A1,B1,C1]]=some (.val O):=by
 have hf6:∀ a b c d e f:Option B,frz [a,b,c,d,e,f]=[a.map fun x=>.sh x.d,b.map fun x=>.sh x.d,c.map fun x=>.sh x.d,d.map fun x=>.sh x.d,e.map fun x=>.sh x.d,f.map fun x=>.sh x.d]:=fun _ _ _ _ _ _=>rfl
 have md:=@zbk;unfold G6;unfold cLw at hT;unfold fLw at hU;generalize hc1:E.comp (.bin .mul (.ix (.var 1) (.int 0)) (.bin .fdiv (.var 2) (.ix (.var 1) (.int 1)))) (.name 1) (.seqV 0) 2 [1] .non=ce at *;generalize hc2:E.fm .tupl _=cf at *;clear hc1 hc2;walk_at "evh"
 unfold forN;walk_at "evh"
 unfold forN;walk_at "evh"
 unfold forN;walk_at "evh"
 unfold forN;walk_at "evh"
 unfold forN;walk_at "evh"
 unfold forN;walk_at "evh"
 unfold forN;walk_at "evh"
 unfold forN;walk_at "evh"
theorem zvp {n:Nat} {a b c:Rat} (ha:Sz n a) (hb:Sz n b) (hc:Sz n c) (hn:n<=1000) (hne:a≠0\/b≠0):zkz [.tup [fr a,fr b,fr c]]=some (.val (hD (low3 a b c))):=by
 unfold zkz;generalize hΓ:tab [(0,Gz)]=Γ;have h0:Γ 0=Gz:=by rw [<- hΓ];rfl
 have da:=Ba a;have db:=Ba b;have dc:=Ba c;have tb:=t3_bd ha hb hc;have hnz:(t3 a b c).1≠0\/(t3 a b c).2.1≠0\/(t3 a b c).2.2≠0:=by
  rcases hne with h | h
  ·left
   exact Zz (fun e=>h (num_zero.mp e)) (Zz (by omega) (by omega))
  ·right;left
   exact Zz (fun e=>h (num_zero.mp e)) (Zz (by omega) (by omega))
 have gp:=zyn hnz;have gb:(g3 (t3 a b c)).natAbs<2^(n+(n+n)):=by
  obtain⟨d1,d2,d3⟩:=zmz (t3 a b c)
  rcases hnz with h | h | h
  ·exact Yx (G2 d1 h) tb.a
  ·exact Yx (G2 d2 h) tb.b
  ·exact Yx (G2 d3 h) tb.c
 have m0:Gp 1 (a.den:Int)=true:=Gk (n:=n) (m:=1) (by decide) (V9 ha) (by decide) (by omega);have e0:(1:Int)*(a.den:Int)=a.den:=Int.one_mul _;have m1:Gp (a.den:Int) (b.den:Int)=true:=Gk (V9 ha) (V9 hb) (by omega) (by omega);have m2:Gp ((a.den:Int)*(b.den:Int)) (c.den:Int)=true:=Gk (G5 (V9 ha) (V9 hb)) (V9 hc) (by omega) (by omega);have o1:zaf (a.den:Int)=true:=zaa (by omega) (V9 ha) (by omega);have o2:zaf (b.den:Int)=true:=zaa (by omega) (V9 hb) (by omega);have o3:zaf (c.den:Int)=true:=zaa (by omega) (V9 hc) (by omega);have o4:zaf (g3 (t3 a b c))=true:=zaa (by omega) gb (by omega);have q1:((a.den:Int)*(b.den:Int)*(c.den:Int)).fdiv (a.den:Int)=(b.den:Int)*(c.den:Int):=zle (by omega) (by rw [Jm]);have q2:((a.den:Int)*(b.den:Int)*(c.den:Int)).fdiv (b.den:Int)=(a.den:Int)*(c.den:Int):=zle (by omega) (by rw [Qr (a.den:Int) (b.den:Int),Jm]);have q3:((a.den:Int)*(b.den:Int)*(c.den:Int)).fdiv (c.den:Int)=(a.den:Int)*(b.den:Int):=zle (by omega) (by rw [Qr]);have k1:Gp a.num ((b.den:Int)*(c.den:Int))=true:=Gk ha.t (G5 (V9 hb) (V9 hc)) (by omega) (by omega);have k2:Gp b.num ((a.den:Int)*(c.den:Int))=true:=Gk hb.t (G5 (V9 ha) (V9 hc)) (by omega) (by omega);have k3:Gp c.num ((a.den:Int)*(b.den:Int))=true:=Gk hc.t (G5 (V9 ha) (V9 hb)) (by omega) (by omega);have hT:∀ x y u v,ev Γ (.comp (.bin .mul (.ix (.var 1) (.int 0)) (.bin .fdiv (.var 2) (.ix (.var 1) (.int 1)))) (.name 1) (.seqV 0) 2 [1] .non) [some (.tup [fr a,fr b,fr c]),some (.int ((a.den:Int)*(b.den:Int)*(c.den:Int))),x,y,u,v]=some (.new [.int (t3 a b c).1,.int (t3 a b c).2.1,.int (t3 a b c).2.2]):=by
  intro x y u v;have:=zaq (Γ:=Γ) (ρ:=[some (.tup [fr a,fr b,fr c]),some (.int ((a.den:Int)*(b.den:Int)*(c.den:Int))),x,y,u,v]) (elt:=.bin .mul (.ix (.var 1) (.int 0)) (.bin .fdiv (.var 2) (.ix (.var 1) (.int 1)))) (t:=.name 1) (it:=.seqV 0) (nt:=2) (fr:=[1]) (c:=.non) (l:=[(a,(t3 a b c).1),(b,(t3 a b c).2.1),(c,(t3 a b c).2.2)]) (g:=fun p=>fr p.1) (h:=fun p=>.int p.2) (by rfl) (by show 3<=PySem.sizeLine;decide) rfl (fun p hp=>?_)
  ·exact this
  ·simp only [Zf,Yj,or_false] at hp;clear tb hnz gp gb m0 m1 m2 o4 ha hb hc da db dc hne hΓ e0;rcases hp with rfl | rfl | rfl <;> unfold t3 <;> walk_at "evh"
 have hU:∀ x y z u,ev Γ (.fm .tupl (.cons (.comp (.bin .fdiv (.var 1) (.var 2)) (.name 1) (.seqV 3) 2 [4] .non) .nil)) [x,y,z,some (.lst [.int (t3 a b c).1,.int (t3 a b c).2.1,.int (t3 a b c).2.2]),some (.int (g3 (t3 a b c))),u]=some (.val (hD (low3 a b c))):=by
  intro x y z u;have:=zaq (Γ:=Γ) (ρ:=[x,y,z,some (.lst [.int (t3 a b c).1,.int (t3 a b c).2.1,.int (t3 a b c).2.2]),some (.int (g3 (t3 a b c))),u]) (elt:=.bin .fdiv (.var 1) (.var 2)) (t:=.name 1) (it:=.seqV 3) (nt:=2) (fr:=[4]) (c:=.non) (l:=[(t3 a b c).1,(t3 a b c).2.1,(t3 a b c).2.2]) (g:=fun p=>.int p) (h:=fun p=>.int (p.fdiv (g3 (t3 a b c)))) (by rfl) (by show 3<=PySem.sizeLine;decide) rfl (fun p hp=>by
    clear hp tb hnz gp gb m0 m1 m2 ha hb hc da db dc hne hΓ hT e0;walk_at "evh")
  rw [ev_fm,zne,zru];unfold evd;rw [this];rfl
 have gE:gc (gc (gc 0 (t3 a b c).1) (t3 a b c).2.1) (t3 a b c).2.2=g3 (t3 a b c):=rfl;exact zvo h0 ixf1 ixf1 ixf1 lff lff lff m0 e0 m1 m2 hT hU gE
end
open Sf
def G9 {α:Type} (l:List α):List (α×α):=l.zip (l.drop 1++l.take 1)
theorem Bn {α:Type} (l:List α):(G9 l).length=l.length:=by
 unfold G9;rw [J3,Zw,Yc,Ww];omega
theorem zfa {α:Type} {l:List α} {k:Nat} {p:α×α} (h:(G9 l)[k]? = some p):l[k]? = some p.1/\l[(k+1)%l.length]? = some p.2:=by
 have hk:k<l.length:=by
  have:=(Zm.mp h).1
  rw [Bn] at this;exact this
 unfold G9 at h;rw [Kt] at h;refine⟨h.1,?_⟩
 have h2:=h.2;rcases Yg (k+1) l.length with q | q
 ·rw [Z9 (by rw [Yc];omega),Vk,U4] at h2;rw [Zo q];exact h2
 ·have e:k+1=l.length:=by omega
  rw [Z0 (by rw [Yc];omega),Yc,show k-(l.length-1)=0 by omega,Kw (by decide)] at h2;rw [e,Q9];exact h2
theorem zip_map (l:List (Rat×Rat)):zipD (l.map stD) ((l.map stD).drop 1++(l.map stD).take 1)=(G9 l).map fun p=>D.tup [stD p.1,stD p.2]:=by
 unfold zipD G9;rw [<- K0,<- List.map_take,<- Wo,List.zip_map,Wb];rfl
def zcg (s e:Rat×Rat):H3:=low3 (s.2-e.2) (e.1-s.1) ((s.2-e.2)*s.1+(e.1-s.1)*s.2)
theorem zhk {s e:Rat×Rat} (h:s≠e):s.2-e.2≠0\/e.1-s.1≠0:=by
 refine Wc fun hn=>h ?_
 have h1:s.2-e.2=0:=Wc fun z=>hn (.inl z)
 have h2:e.1-s.1=0:=Wc fun z=>hn (.inr z)
 refine Z5 ?_ ?_
 ·grind
 ·grind
theorem yad {s e:Rat×Rat} (hs1:Sz 165 s.1) (hs2:Sz 165 s.2) (he1:Sz 165 e.1) (he2:Sz 165 e.2) (h:s≠e):HB 3000 (zcg s e):=by
 have ha:=hs2.sub he2;have hb:=he1.sub hs1;have hc:=(ha.mul hs1).add (hb.mul hs2);have tb:=t3_bd (ha.mono (show 165+165+1<=1000 by decide)) (hb.mono (show 165+165+1<=1000 by decide)) (hc.mono (show (165+165+1+165)+(165+165+1+165)+1<=1000 by decide));obtain⟨d1,d2,d3⟩:=zmz (t3 (s.2-e.2) (e.1-s.1) ((s.2-e.2)*s.1+(e.1-s.1)*s.2))
 have key:∀ t g:Int,g∣t->t.natAbs<2^3000->(t.fdiv g).natAbs<2^3000:=fun t g hd ht=>by
  obtain⟨x,hx⟩:=hd
  rcases Vv (g=0) with z | z
  ·rw [z,Int.fdiv_zero];exact Ug _
  ·rw [hx,Z7 _ z];rcases Vv (x=0) with zx | zx
   ·rw [zx];exact Ug _
   ·refine Yx ?_ ht;exact G2 ⟨g,by rw [hx,Qr]⟩ (by rw [hx];exact Zz z zx)
 exact⟨key _ _ d1 tb.a,key _ _ d2 tb.b,key _ _ d3 tb.c⟩
section
variable {Γ:Nat->List D->Option W}
def zas:List D->Option W:=run (tab []) zfv 1
theorem ok_steps:∀ ds w,ds.length=1->zas ds=some w->run Γ zfv 1 ds=some w:=fun ds w _ h=>zay [] (fun p hp=>by cases hp) (by decide) ds w h
theorem zit {L:List D} (h1:1<=L.length) (h2:L.length<=1000):zas [.lst L]=some (.new (zipD L (L.drop 1++L.take 1))):=by
 have c1:=zwf (l:=L) (a:=1) h1;have c2:=cut_to (l:=L) (a:=1) h1;rw [show ((1:Nat):Int)=1 from rfl] at c1 c2;have ad:opW .add (.lst (L.drop 1)) (.lst (L.take 1))=some (.new (L.drop 1++L.take 1)):=by
  show (if _ then some (W.new _) else none)=_;rw [if_pos (by rw [Qy,Yc,Ww];omega)]
 have zz:fmW .zip [.lst L,.lst (L.drop 1++L.take 1)]=some (.new (zipD L (L.drop 1++L.take 1))):=by
  show (if _ then some (W.new _) else none)=_;rw [if_pos (by rw [Zw,Yc,Ww];omega)]
 generalize zipD L (L.drop 1++L.take 1)=Z at *;generalize L.drop 1++L.take 1=Y at *;generalize L.drop 1=Y1 at *;generalize L.take 1=Y2 at *;clear h1 h2;unfold zas zfv;walk_at "evh"
abbrev zdu:List (Nat×(List D->Option W)):=[(9,zau),(10,Bo),(11,Bl),(43,zkz)]
def zcj:List D->Option W:=run (tab zdu) Bf 5
theorem ok_side_between (h9:Γ 9=zau) (h10:Γ 10=Bo) (h11:Γ 11=Bl) (h43:Γ 43=zkz):∀ ds w,ds.length=2->zcj ds=some w->run Γ Bf 5 ds=some w:=fun ds w _ h=>zay zdu (by
 intro p hp;simp only [zdu,Zf,Yj,or_false] at hp;rcases hp with rfl | rfl | rfl | rfl <;> assumption) (by decide) ds w h
theorem zpv {s e:Rat×Rat} (hs1:Sz 165 s.1) (hs2:Sz 165 s.2) (he1:Sz 165 e.1) (he2:Sz 165 e.2) (h:s≠e):zcj [stD s,stD e]=some (.val (hD (zcg s e))):=by
 unfold zcj;generalize hΓ:tab zdu=Γ;have h9:Γ 9=zau:=by rw [<- hΓ];rfl
 have h10:Γ 10=Bo:=by rw [<- hΓ];rfl
 have h11:Γ 11=Bl:=by rw [<- hΓ];rfl
 have h43:Γ 43=zkz:=by rw [<- hΓ];rfl
 have ha:=hs2.sub he2;have hb:=he1.sub hs1;have q1:Bo [fr s.2,fr e.2]=some (.val (fr (s.2-e.2))):=G0 (Gn hs2 he2 (by decide) (by decide));have q2:Bo [fr e.1,fr s.1]=some (.val (fr (e.1-s.1))):=G0 (Gn he1 hs1 (by decide) (by decide));have q3:Bl [fr (s.2-e.2),fr s.1]=some (.val (fr ((s.2-e.2)*s.1))):=G0 (Gn ha hs1 (by decide) (by decide));have q4:Bl [fr (e.1-s.1),fr s.2]=some (.val (fr ((e.1-s.1)*s.2))):=G0 (Gn hb hs2 (by decide) (by decide));have q5:zau [fr ((s.2-e.2)*s.1),fr ((e.1-s.1)*s.2)]=some (.val (fr ((s.2-e.2)*s.1+(e.1-s.1)*s.2))):=G0 (Gn (ha.mul hs1) (hb.mul hs2) (by decide) (by decide));have hc:=(ha.mul hs1).add (hb.mul hs2);have q6:=zvp (ha.mono (show 165+165+1<=1000 by decide)) (hb.mono (show 165+165+1<=1000 by decide)) (hc.mono (show (165+165+1+165)+(165+165+1+165)+1<=1000 by decide)) (by decide) (zhk h);have q7:hD (low3 (s.2-e.2) (e.1-s.1) ((s.2-e.2)*s.1+(e.1-s.1)*s.2))=hD (zcg s e):=rfl;rw [q7] at q6;generalize hD (zcg s e)=O at *;clear ha hb hc hs1 hs2 he1 he2 h hΓ q7;unfold Bf stD;walk_at "evh"
def zfb:List D->Option W:=run (tab [(41,zas),(42,zcj)]) B2 1
theorem ok_sides_of (h41:Γ 41=zas) (h42:Γ 42=zcj):∀ ds w,ds.length=1->zfb ds=some w->run Γ B2 1 ds=some w:=fun ds w _ h=>zay [(41,zas),(42,zcj)] (by
 intro p hp;simp only [Zf,Yj,or_false] at hp;rcases hp with rfl | rfl <;> assumption) (by decide) ds w h
def Gm (l:List (Rat×Rat)):List H3:=(G9 l).map fun p=>zcg p.1 p.2
theorem zqx {l:List (Rat×Rat)} (nd:l.Nodup) (h2:2<=l.length) {p:(Rat×Rat)×(Rat×Rat)} (hp:p∈G9 l):p.1≠p.2/\p.1∈l/\p.2∈l:=by
 obtain⟨k,hk⟩:=Wa hp
 obtain⟨g1,g2⟩:=zfa hk
 refine⟨fun e=>?_,Yh g1,Yh g2⟩
 rw [e] at g1;obtain⟨l1,e1⟩:=Zm.mp g1
 obtain⟨l2,e2⟩:=Zm.mp g2
 have:=(Kb nd).mp (e1.trans e2.symm)
 rcases Yg (k+1) l.length with q | q
 ·rw [Zo q] at this;omega
 ·rw [show k+1=l.length by omega,Q9] at this;omega
theorem ziy {l:List (Rat×Rat)} (nd:l.Nodup) (h2:2<=l.length) (hl:l.length<=1000) (hz:SzL 165 l):zfb [.lst (l.map stD)]=some (.new ((Gm l).map hD)):=by
 unfold zfb;generalize hΓ:tab [(41,zas),(42,zcj)]=Γ;have h41:Γ 41=zas:=by rw [<- hΓ];rfl
 have h42:Γ 42=zcj:=by rw [<- hΓ];rfl
 have st:=zit (L:=l.map stD) (by rw [Zc];omega) (by rw [Zc];exact hl);rw [zip_map] at st;have pl:=Bn l;have hcomp:ev Γ (.comp (.call 42 (.cons (.var 1) (.cons (.var 2) .nil))) (.tup [1,2]) (.seq (.call 41 (.cons (.var 0) .nil))) 3 [] .non) [some (.lst (l.map stD))]=some (.new ((G9 l).map fun p=>hD (zcg p.1 p.2))):=by
  refine zaq (g:=fun p=>D.tup [stD p.1,stD p.2]) ?_ (by rw [Qy];omega) rfl fun p hp=>?_
  ·generalize (G9 l).map (fun p=>D.tup [stD p.1,stD p.2])=Z at *;clear nd h2 hl hz hΓ pl;walk_at "evh"
  ·obtain⟨ne,m1,m2⟩:=zqx nd h2 hp
   have sb:=zpv (hz _ m1).1 (hz _ m1).2 (hz _ m2).1 (hz _ m2).2 ne;generalize hD (zcg p.1 p.2)=O at *;generalize stD p.1=x at *;generalize stD p.2=y at *;clear nd h2 hl hz hΓ pl ne m1 m2 hp st;walk_at "evh"
 unfold Gm;rw [Wb];show run Γ B2 1 _=some (.new ((G9 l).map fun p=>hD (zcg p.1 p.2)));generalize ((G9 l).map fun p=>hD (zcg p.1 p.2))=O at *;unfold B2;generalize hce:E.comp _ _ _ _ _ _=ce at *;clear nd h2 hl hz hΓ pl hce st;walk_at "evh"
end
open Sf
theorem zqg (p:Hu.Pt):∀ {st:List Hu.Pt},st≠[]->Hu.popw p st≠[]
 | [],h=>h
 | [_],h=>h
 | b::a::r,h=>by
  unfold Hu.popw;split
  ·exact zqg p (st:=a::r) (fun z=>nomatch z)
  ·exact h
theorem znn:∀ (l st:List Hu.Pt),2<=st.length->2<=(Hu.bent st l).length
 | [],st,h=>h
 | p::l,st,h=>by
  refine znn l (p::Hu.popw p st) ?_;have:Hu.popw p st≠[]:=zqg p (fun z=>by rw [z] at h;exact absurd h (by decide))
  match hq:Hu.popw p st with
  | []=>exact absurd hq this
  | _::_=>simp
theorem zuu {l:List Hu.Pt} (h:2<=l.length):2<=(Hu.ring l).length:=by
 have key:∀ m:List Hu.Pt,2<=m.length->2<=(Hu.bent [] m).length:=fun m hm=>by
  match m,hm with
  | a::b::r,_=>exact znn r [b,a] (Zj _)
 have h1:=key l h;have h2:=key l.reverse (by rw [Yz];exact h);unfold Hu.ring;rw [Zw,Kh,Kh,Yz,Yz];omega
theorem ShapeBy.two {m:Nat} {l:List (Rat×Rat)} {ps:List (Int×Int)} {b f s:Int} (h:ShapeBy m l ps b f s):2<=l.length:=by
 rw [h.eq,Zc];refine zuu ?_;obtain⟨o,p,q,ho,hp,hq,hl⟩:=h.pts.left
 have ne:o≠p:=fun e=>by subst e;rw [Int.sub_self,Int.sub_self,Jx,Jx] at hl;omega
 have mo:=sortP_mem.mpr ho;have mp:=sortP_mem.mpr hp;match hs:zui ps with
 | []=>rw [hs] at mo;cases mo
 | [x]=>
  rw [hs] at mo mp;exact absurd ((Zn.mp mo).trans (Zn.mp mp).symm) ne
 | x::y::r=>simp
def Xr (p q:Rat×Rat):Rat:=p.1*q.2-q.1*p.2
theorem oR_X (a b c:Rat×Rat):oR a b c=Xr a b+Xr b c-Xr a c:=by unfold oR Xr;grind
abbrev at0 (l:List (Rat×Rat)) (i:Nat):Rat×Rat:=l.getD i (0,0)
def sX (l:List (Rat×Rat)):Nat->Rat
 | 0=>0
 | i+1=>sX l i+Xr (at0 l i) (at0 l ((i+1)%l.length))
def fanN (l:List (Rat×Rat)):Nat->Rat
 | 0=>0
 | i+1=>fanN l i+oR (at0 l 0) (at0 l (i+1)) (at0 l (i+2))
theorem zyt {l:List (Rat×Rat)}:∀ k,k+1<l.length->fanN l k=sX l (k+1)-Xr (at0 l 0) (at0 l (k+1))
 | 0,h=>by
  show (0:Rat)=0+Xr (at0 l 0) (at0 l ((0+1)%l.length))-Xr (at0 l 0) (at0 l (0+1));rw [Zo h];grind
 | k+1,h=>by
  show fanN l k+oR (at0 l 0) (at0 l (k+1)) (at0 l (k+2))=sX l (k+1)+Xr (at0 l (k+1)) (at0 l ((k+1+1)%l.length))-Xr (at0 l 0) (at0 l (k+1+1));rw [zyt k (by omega),oR_X,Zo h];grind
theorem shoe {l:List (Rat×Rat)} (h:2<=l.length):sX l l.length=fanN l (l.length-2):=by
 have e:=zyt (l:=l) (l.length-2) (by omega);rw [show l.length-2+1=l.length-1 by omega] at e;rw [e];have:sX l l.length=sX l (l.length-1)+Xr (at0 l (l.length-1)) (at0 l 0):=by
  conv=>lhs;rw [show l.length=(l.length-1)+1 by omega]
  show sX l (l.length-1)+Xr (at0 l (l.length-1)) (at0 l ((l.length-1+1)%l.length))=_;rw [show l.length-1+1=l.length by omega,Q9]
 rw [this];unfold Xr;grind
theorem zku (l:List (Rat×Rat)):G9 l=(List.range l.length).map fun i=>(at0 l i,at0 l ((i+1)%l.length)):=by
 refine Vt fun k=>?_;rcases Yg k l.length with q | q
 ·have gp:(G9 l)[k]? = some ((G9 l)[k]'(by rw [Bn];exact q)):=Ze _;obtain⟨g1,g2⟩:=zfa gp
  rw [gp,Zi,Jg q,Wk];congr 1
  refine Z5 ?_ ?_
  ·show _=l.getD k (0,0);rw [Zk,g1];rfl
  ·show _=l.getD ((k+1)%l.length) (0,0);rw [Zk,g2];rfl
 ·rw [Yr (by rw [Bn];exact q),Yr (by rw [Zc,Qh];exact q)]
section
variable {Γ:Nat->List D->Option W}
abbrev zbh:List (Nat×(List D->Option W)):=[(9,zau),(10,Bo),(11,Bl),(41,zas)]
def Bj:List D->Option W:=run (tab zbh) zbe 5
theorem ok_doubled (h9:Γ 9=zau) (h10:Γ 10=Bo) (h11:Γ 11=Bl) (h41:Γ 41=zas):∀ ds w,ds.length=1->Bj ds=some w->run Γ zbe 5 ds=some w:=fun ds w _ h=>zay zbh (by
 intro p hp;simp only [zbh,Zf,Yj,or_false] at hp;rcases hp with rfl | rfl | rfl | rfl <;> assumption) (by decide) ds w h
abbrev zih:Ss:=(.cons (.asg 4 (.call 10 (.cons (.call 11 (.cons (.ix (.var 2) (.int 0)) (.cons (.ix (.var 3) (.int 1)) .nil))) (.cons (.call 11 (.cons (.ix (.var 3) (.int 0)) (.cons (.ix (.var 2) (.int 1)) .nil))) .nil)))) (.cons (.asg 1 (.call 9 (.cons (.var 1) (.cons (.var 4) .nil)))) .nil))
theorem zms (h9:Γ 9=zau) (h10:Γ 10=Bo) (h11:Γ 11=Bl) {l:List (Rat×Rat)} (hS:∀ i,i<=l.length->Sz 600 (sX l i)) (hz:∀ i,i<l.length->Sz 300 (at0 l i).1/\Sz 300 (at0 l i).2) (L:Option B) :
  ∀ (m i:Nat) (a b c:Option B),i+m=l.length->∃ a' b' c',forN (Be (.tup [2,3])) (exs Γ zih) ((List.range' i m).map fun i=>D.tup [stD (at0 l i),stD (at0 l ((i+1)%l.length))]) [L,some (.sh (fr (sX l i))),a,b,c]=some (.nx [L,some (.sh (fr (sX l l.length))),a',b',c'])
 | 0,i,a,b,c,h=>⟨a,b,c,by rw [show i=l.length by omega];rfl⟩
 | m+1,i,a,b,c,h=>by
  obtain⟨a',b',c',q⟩:=zms h9 h10 h11 hS hz L m (i+1) (some (.sh (stD (at0 l i)))) (some (.sh (stD (at0 l ((i+1)%l.length))))) (some (.sh (fr (Xr (at0 l i) (at0 l ((i+1)%l.length)))))) (by omega)
  refine⟨a',b',c',?_⟩
  rw [List.range'_succ,Yk];unfold forN;have hj:(i+1)%l.length<l.length:=Qc _ (by omega);have zi:=hz i (by omega);have zj:=hz _ hj;have zS:=hS i (by omega);have zX:=(zi.1.mul zj.2).sub (zj.1.mul zi.2);have q1:Bl [fr (at0 l i).1,fr (at0 l ((i+1)%l.length)).2]=some (.val (fr ((at0 l i).1*(at0 l ((i+1)%l.length)).2))):=G0 (Gn zi.1 zj.2 (by decide) (by decide));have q2:Bl [fr (at0 l ((i+1)%l.length)).1,fr (at0 l i).2]=some (.val (fr ((at0 l ((i+1)%l.length)).1*(at0 l i).2))):=G0 (Gn zj.1 zi.2 (by decide) (by decide));have q3:Bo [fr ((at0 l i).1*(at0 l ((i+1)%l.length)).2),fr ((at0 l ((i+1)%l.length)).1*(at0 l i).2)]=some (.val (fr (Xr (at0 l i) (at0 l ((i+1)%l.length))))):=G0 (Gn (zi.1.mul zj.2) (zj.1.mul zi.2) (by decide) (by decide));have q4:zau [fr (sX l i),fr (Xr (at0 l i) (at0 l ((i+1)%l.length)))]=some (.val (fr (sX l (i+1)))):=G0 (Gn zS (show Sz (300+300+(300+300)+1) (Xr (at0 l i) (at0 l ((i+1)%l.length))) from zX) (by decide) (by decide));have ex1:exs Γ zih [L,some (.sh (fr (sX l i))),some (.sh (stD (at0 l i))),some (.sh (stD (at0 l ((i+1)%l.length)))),c]=some (.nx [L,some (.sh (fr (sX l (i+1)))),some (.sh (stD (at0 l i))),some (.sh (stD (at0 l ((i+1)%l.length)))),some (.sh (fr (Xr (at0 l i) (at0 l ((i+1)%l.length)))))]):=by
   clear q zS zX zi zj hz hS h hj;unfold zih stD;walk_at "evh"
  simp only [znm,zca,zxn,zxo,Wk,Yy];rw [ex1];exact q
end
open Sf
section
variable {Γ:Nat->List D->Option W}
theorem zli {l:List (Rat×Rat)} (hS:∀ i,i<=l.length->Sz 600 (sX l i)) (hz:∀ i,i<l.length->Sz 300 (at0 l i).1/\Sz 300 (at0 l i).2) (h1:1<=l.length) (hl:l.length<=200):Bj [.lst (l.map stD)]=some (.val (fr (sX l l.length))):=by
 unfold Bj;generalize hΓ:tab zbh=Γ;have h9:Γ 9=zau:=by rw [<- hΓ];rfl
 have h10:Γ 10=Bo:=by rw [<- hΓ];rfl
 have h11:Γ 11=Bl:=by rw [<- hΓ];rfl
 have h41:Γ 41=zas:=by rw [<- hΓ];rfl
 have st:=zit (L:=l.map stD) (by rw [Zc];exact h1) (by rw [Zc];omega);rw [zip_map,zku,Wb] at st;obtain⟨a',b',c',q⟩:=zms h9 h10 h11 hS hz (some (.sh (.lst (l.map stD)))) l.length 0 none none none (by omega)
 rw [<- List.range_eq_range',show fr (sX l 0)=.tup [.int 0,.int 1] from rfl] at q;rw [show (List.range l.length).map (fun i=>D.tup [stD (at0 l i),stD (at0 l ((i+1)%l.length))])=(List.range l.length).map ((fun p=>D.tup [stD p.1,stD p.2]) ∘ fun i=>(at0 l i,at0 l ((i+1)%l.length))) from rfl] at q;generalize (List.range l.length).map ((fun p=>D.tup [stD p.1,stD p.2]) ∘ fun i=>(at0 l i,at0 l ((i+1)%l.length)))=Z at *;unfold zih at q;generalize sX l l.length=A at *;clear hS hz h1 hl hΓ h9 h10 h11;have f5:∀ L:D,frz [some (B.sh L),some (B.sh (D.tup [D.int 0,D.int 1])),none,none,none]=[some (B.sh L),some (B.sh (D.tup [D.int 0,D.int 1])),none,none,none]:=fun _=>rfl
 unfold zbe;cases hz:lfL Z <;> walk_at "evh"
end
open Sf
section
variable {Γ:Nat->List D->Option W}
end
open Sf
theorem zhh (a b:Rat):a<b\/a=b\/b<a:=by
 by_cases h:a<b
 ·exact .inl h
 ·by_cases e:a=b
  ·exact .inr (.inl e)
  ·exact .inr (.inr (by grind))
theorem zxr {a b c:Rat} (h1:a<b) (h2:b<c):a<c:=by grind
theorem zla (a:Rat×Rat):¬ ltR a a:=fun h=>by
 rcases h with h | ⟨_,h⟩ <;> exact Rat.lt_irrefl h
theorem zjm {a b c:Rat×Rat} (h1:ltR a b) (h2:ltR b c):ltR a c:=by
 unfold ltR at *;rcases h1 with h1 | ⟨e1,h1⟩ <;> rcases h2 with h2 | ⟨e2,h2⟩
 ·exact .inl (zxr h1 h2)
 ·exact .inl (by rw [<- e2];exact h1)
 ·exact .inl (by rw [e1];exact h2)
 ·exact .inr ⟨e1.trans e2,zxr h1 h2⟩
theorem ybu (a b:Rat×Rat):ltR a b\/a=b\/ltR b a:=by
 rcases zhh a.1 b.1 with h | h | h
 ·exact .inl (.inl h)
 ·rcases zhh a.2 b.2 with k | k | k
  ·exact .inl (.inr ⟨h,k⟩)
  ·exact .inr (.inl (Z5 h k))
  ·exact .inr (.inr (.inr ⟨h.symm,k⟩))
 ·exact .inr (.inr (.inl h))
theorem IsShp.map {l:List (Rat×Rat)} {f:Rat×Rat->Rat×Rat} (hS:IsShp l) (hl:∀ a b,ltR a b->ltR (f a) (f b)) (ho:∀ a b c,0<oR a b c->0<oR (f a) (f b) (f c)):IsShp (l.map f):=by
 refine⟨by rw [Zc];exact hS.three,fun k q0 q h0 hk=>?_,fun k a b c ha hb hc na nb=>?_⟩
 ·rw [Zi] at h0 hk;obtain⟨x,hx,e⟩:=Zb.mp h0
  obtain⟨y,hy,e2⟩:=Zb.mp hk
  rw [<- e,<- e2];exact hl _ _ (hS.first k x y hx hy)
 ·rw [Zc,Zi] at ha;rw [Zi] at hb;obtain⟨x,hx,e⟩:=Zb.mp ha
  obtain⟨y,hy,e2⟩:=Zb.mp hb
  obtain⟨z,hz,e3⟩:=Zv.mp hc
  rw [<- e,<- e2,<- e3];exact ho _ _ _ (hS.conv k x y z hx hy hz (fun q=>na (by rw [<- e3,q,e])) fun q=>nb (by rw [<- e3,q,e2]))
def pshR (p q:Rat×Rat):Rat×Rat:=(q.1+p.1,q.2+p.2)
def szR (k:Rat) (q:Rat×Rat):Rat×Rat:=(q.1*k,q.2*k)
theorem ybv {p a b:Rat×Rat} (h:ltR a b):ltR (pshR p a) (pshR p b):=by
 unfold ltR pshR at *;rcases h with h | ⟨e,h⟩
 ·exact .inl (by grind)
 ·exact .inr ⟨by grind,by grind⟩
theorem ltR_sz {k:Rat} (hk:0<k) {a b:Rat×Rat} (h:ltR a b):ltR (szR k a) (szR k b):=by
 unfold ltR szR at *;rcases h with h | ⟨e,h⟩
 ·exact .inl ((Vb hk).mpr h)
 ·exact .inr ⟨by rw [e],(Vb hk).mpr h⟩
theorem oR_psh (p a b c:Rat×Rat):oR (pshR p a) (pshR p b) (pshR p c)=oR a b c:=by unfold oR pshR;grind
theorem oR_sz (k:Rat) (a b c:Rat×Rat):oR (szR k a) (szR k b) (szR k c)=k*k*oR a b c:=by unfold oR szR;grind
theorem IsShp.push {l:List (Rat×Rat)} (hS:IsShp l) (p:Rat×Rat):IsShp (l.map (pshR p)):=hS.map (fun _ _ h=>ybv h) fun a b c h=>by rw [oR_psh];exact h
theorem IsShp.size {l:List (Rat×Rat)} (hS:IsShp l) {k:Rat} (hk:0<k):IsShp (l.map (szR k)):=hS.map (fun _ _ h=>ltR_sz hk h) fun a b c h=>by rw [oR_sz];exact Z2 (Z2 hk hk) h
def rot {α:Type} (l:List α) (k:Nat):List α:=l.drop k++l.take k
theorem zcv {α:Type} {l:List α} {k:Nat}:(rot l k).length=l.length:=by
 unfold rot;rw [Zw,Yc,Ww];omega
theorem zhf {α:Type} {l:List α} {k i:Nat} (hk:k<l.length) (hi:i<l.length):(rot l k)[i]? = l[(i+k)%l.length]?:=by
 unfold rot;rcases Yg (i+k) l.length with h | h
 ·rw [Z9 (by rw [Yc];omega),Vk,Zo h,U4]
 ·rw [Z0 (by rw [Yc];omega),Yc,Kw (by omega),Vr h,Zo (by omega)];congr 1
  omega
theorem rot_mem {α:Type} {l:List α} {k:Nat} {x:α}:x∈rot l k↔x∈l:=by
 unfold rot;rw [Ys,Or.comm,<- Ys,Ux]
theorem zqb {α β:Type} (f:α->β) (l:List α) (k:Nat):(rot l k).map f=rot (l.map f) k:=by
 unfold rot;rw [Wo,K0,List.map_take]
structure Fst (l:List (Rat×Rat)) (k:Nat):Prop where
 lt:k<l.length
 low:∀ j p q,j≠k->l[k]? = some p->l[j]? = some q->ltR p q
theorem Fst.uniq {l:List (Rat×Rat)} {k j:Nat} (h:Fst l k) (g:Fst l j):k=j:=by
 refine Wc fun ne=>?_;have a:=h.low j _ _ (Wh ne) (Ze h.lt) (Ze g.lt);have b:=g.low k _ _ ne (Ze g.lt) (Ze h.lt);exact zla _ (zjm a b)
theorem IsShp.fst {l:List (Rat×Rat)} (hS:IsShp l):Fst l 0:=⟨by have:=hS.three;omega,fun j p q hj h0 h1=>by
 cases j with
 | zero=>exact absurd rfl hj
 | succ j=>exact hS.first j p q h0 h1⟩
theorem IsShp.of_rot {l:List (Rat×Rat)} {k:Nat} (h3:3<=l.length) (conv:∀ k a b c,l[(k+l.length-1)%l.length]? = some a->l[k]? = some b->c∈l->c≠a->c≠b->0<oR a b c) (hk:Fst l k):IsShp (rot l k):=by
 have kl:=hk.lt;refine⟨by rw [zcv];exact h3,fun j q0 q h0 hj=>?_,fun j a b c ha hb hc na nb=>?_⟩
 ·have hj1:j+1<l.length:=by
   have:=(Zm.mp hj).1
   rw [zcv] at this;exact this
  rw [zhf kl (by omega),Yv,Zo kl] at h0;rw [zhf kl hj1] at hj;refine hk.low _ _ _ ?_ h0 hj;rcases Yg (j+1+k) l.length with z | z
  ·rw [Zo z];omega
  ·rw [Vr z,Zo (by omega)];omega
 ·have hjl:j<l.length:=by
   have:=(Zm.mp hb).1
   rw [zcv] at this;exact this
  rw [zcv,zhf kl (Qc _ (by omega))] at ha;rw [zhf kl hjl] at hb;rw [rot_mem] at hc;refine conv ((j+k)%l.length) a b c ?_ hb hc na nb;rw [<- ha];congr 1
  have e:((j+k)%l.length+l.length-1)%l.length=((j+k)%l.length+(l.length-1))%l.length:=by congr 1;omega
  rw [e,Jh,Nat.mod_mod,<- Jh,Jh ((j+l.length-1)%l.length),Nat.mod_mod,<- Jh];congr 1
  omega
def low (l:List (Rat×Rat)):Nat->Nat->Nat
 | 0,f=>f
 | n+1,f=>open Classical in low l n (if ltR (l.getD (l.length-(n+1)) (0,0)) (l.getD f (0,0)) then l.length-(n+1) else f)
open Sf
theorem cutTo {l:List D} {a:Nat} (h:a<=l.length):cutD l none (some (a:Int))=l.take a:=by
 unfold cutD;rw [HT.sIx_none,HT.sIx_nat,Jc,K7,K9 h]
theorem zhy {l:List D} {a:Nat} (h:a<=l.length):cutD l (some (a:Int)) none=l.drop a:=by
 unfold cutD;rw [HT.sIx_none,HT.sIx_nat,K9 h,Qz (by rw [Yc];exact Zj _)]
section
variable {Γ:Nat->List D->Option W}
abbrev zha:List (Nat×(List D->Option W)):=[(9,zau)]
def zbb:List D->Option W:=run (tab zha) zfx 2
theorem ok_added (h9:Γ 9=zau):∀ ds w,ds.length=2->zbb ds=some w->run Γ zfx 2 ds=some w:=fun ds w _ h=>zay zha (by
 intro p hp;rcases Zn.mp hp with rfl;exact h9) (by decide) ds w h
theorem zkf {m n:Nat} {q p:Rat×Rat} (hq:Sz m q.1/\Sz m q.2) (hp:Sz n p.1/\Sz n p.2) (hm:m<=4400:=by decide) (hn:n<=4400:=by decide):zbb [stD q,stD p]=some (.val (stD (pshR p q))):=by
 unfold zbb;generalize hΓ:tab zha=Γ;have h9:Γ 9=zau:=by rw [<- hΓ];rfl
 have q1:zau [fr q.1,fr p.1]=some (.val (fr (q.1+p.1))):=G0 (Gn hq.1 hp.1 hm hn);have q2:zau [fr q.2,fr p.2]=some (.val (fr (q.2+p.2))):=G0 (Gn hq.2 hp.2 hm hn);show _=some (W.val (.tup [fr (q.1+p.1),fr (q.2+p.2)]));generalize fr (q.1+p.1)=X at *;generalize fr (q.2+p.2)=Y at *;clear hq hp hΓ hm hn;unfold zfx stD;walk_at "evh"
abbrev zep:List (Nat×(List D->Option W)):=[(67,zbb)]
def zba:List D->Option W:=run (tab zep) zbn 2
theorem ok_pushed (h67:Γ 67=zbb):∀ ds w,ds.length=2->zba ds=some w->run Γ zbn 2 ds=some w:=fun ds w _ h=>zay zep (by
 intro p hp;rcases Zn.mp hp with rfl;exact h67) (by decide) ds w h
theorem zgr {m n:Nat} {l:List (Rat×Rat)} {p:Rat×Rat} (hl:l.length<=1000) (hz:SzL m l) (hp:Sz n p.1/\Sz n p.2) (hm:m<=4400:=by decide) (hn:n<=4400:=by decide):zba [.lst (l.map stD),stD p]=some (.new ((l.map (pshR p)).map stD)):=by
 unfold zba;generalize hΓ:tab zep=Γ;have h67:Γ 67=zbb:=by rw [<- hΓ];rfl
 have hcomp:ev Γ (.comp (.call 67 (.cons (.var 1) (.cons (.var 2) .nil))) (.name 1) (.seqV 0) 2 [1] .non) [some (.lst (l.map stD)),some (stD p)]=some (.new (l.map fun q=>stD (pshR p q))):=by
  refine zaq (g:=stD) ?_ (by rw [Qy];omega) rfl fun q hq=>?_
  ·generalize stD p=P;clear hz hp hΓ hm hn;walk_at "evh"
  ·have a:=zkf (hz q hq) hp hm hn;generalize stD (pshR p q)=O at *;generalize stD q=Q at *;generalize stD p=P at *;generalize l.map stD=LL at *;clear hz hp hΓ hq hm hn;walk_at "evh"
 rw [Wb];show run Γ zbn 2 _=some (.new (l.map fun q=>stD (pshR p q)));generalize (l.map fun q=>stD (pshR p q))=O at *;generalize stD p=P at *;generalize l.map stD=LL at *;unfold zbn;generalize hce:E.comp _ _ _ _ _ _=ce at *;clear hz hp hΓ hl hce hm hn;walk_at "evh"
theorem rat_of (x:Rat):Rat.divInt x.num (x.den:Int)=x:=by
 rw [Rat.divInt_ofNat];exact Rat.mkRat_self x
theorem add_r (x y:Rat):Rat.divInt (x.num*(y.den:Int)+y.num*(x.den:Int)) ((x.den:Int)*(y.den:Int))=x+y:=by
 have dx:(x.den:Int)≠0:=by have:=Ba x;omega
 have dy:(y.den:Int)≠0:=by have:=Ba y;omega
 have e:=Qg x.num y.num dx dy;rw [rat_of,rat_of] at e;exact e.symm
theorem mul_r (x y:Rat):Rat.divInt (x.num*y.num) ((x.den:Int)*(y.den:Int))=x*y:=by
 have e:=Wg x.num y.num (d₁:=(x.den:Int)) (d₂:=(y.den:Int));rw [rat_of,rat_of] at e;exact e.symm
end
open Sf
theorem fr_eqd (x y:Rat):cmpD .eq (fr x) (fr y)=some (decide (x=y)):=by
 have d:∀ z:Rat,dOkL 49 [D.int z.num,D.int (z.den:Int)]=true:=fun _=>rfl
 show (if (dOkL 49 [.int x.num,.int (x.den:Int)] && dOkL 49 [.int y.num,.int (y.den:Int)])=true then some (eqL [.int x.num,.int (x.den:Int)] [.int y.num,.int (y.den:Int)]) else none)=_;rw [d,d,Bool.and_self,if_pos rfl];congr 1
 simp only [eqL,eqD,Bool.and_true];by_cases h:x=y
 ·subst h;simp
 ·have:¬ (x.num=y.num/\(x.den:Int)=(y.den:Int)):=fun⟨h1,h2⟩=>h (Rat.ext h1 (by omega))
  rw [decide_eq_false h];exact Jq.mpr fun e=>this (by simpa using e)
section
variable {Γ:Nat->List D->Option W}
theorem zsy {l:List (Rat×Rat)} {k:Nat} (h:k<l.length):L2.atI (l.map stD) (k:Int)=some (stD (l.getD k (0,0))):=by
 rw [zta (Yl k) (by rw [Zc];omega),Wm,Zi,Ze h,Zk,Ze h];rfl
end
open Sf
section
variable {Γ:Nat->List D->Option W}
structure Sy (a b:Nat) (x:Rat):Prop where
 t:x.num.natAbs<2^a
 b:x.den<2^b
theorem Sy.sz {a b n:Nat} {x:Rat} (h:Sy a b x) (ha:a<=n) (hb:b<=n):Sz n x:=⟨Zd h.t (Gc ha),Zd h.b (Gc hb)⟩
theorem Sy.mono {a b c d:Nat} {x:Rat} (h:Sy a b x) (ha:a<=c) (hb:b<=d):Sy c d x:=⟨Zd h.t (Gc ha),Zd h.b (Gc hb)⟩
theorem zbv {x:Rat} {p q:Int} {m n:Nat} (hq:q≠0) (e:x=Rat.divInt p q) (hp:p.natAbs<2^m) (hb:q.natAbs<2^n):Sy m n x:=by
 obtain⟨a,b⟩:=(zam x).cross_le hq ((zmd hq).mp e)
 exact⟨Yx a hp,by have:=b;omega⟩
theorem zir {t b:Int} {m n:Nat} (h:b≠0) (ht:t.natAbs<2^m) (hb:b.natAbs<2^n):Sy m n (Rat.divInt t b):=zbv h rfl ht hb
theorem Sy.mul {a b c d:Nat} {x y:Rat} (hx:Sy a b x) (hy:Sy c d y):Sy (a+c) (b+d) (x*y):=by
 have p:(x.den:Int)≠0:=by have:=x.den_nz;omega
 have q:(y.den:Int)≠0:=by have:=y.den_nz;omega
 refine zbv (Zz p q) (zkx x y) ?_ ?_
 ·rw [Ym];exact Bw hx.t hy.t
 ·rw [Ym];exact Bw hx.b hy.b
theorem Sy.add {a b c d k:Nat} {x y:Rat} (hx:Sy a b x) (hy:Sy c d y) (h1:a+d<=k) (h2:c+b<=k):Sy (k+1) (b+d) (x+y):=by
 have p:(x.den:Int)≠0:=by have:=x.den_nz;omega
 have q:(y.den:Int)≠0:=by have:=y.den_nz;omega
 have e:x+y=Rat.divInt (x.num*y.den+y.num*x.den) (x.den*y.den):=by
  conv=>lhs;rw [<- Yd x,<- Yd y]
  exact Qg _ _ p q
 refine zbv (Zz p q) e ?_ ?_
 ·have t1:(x.num*y.den).natAbs<2^k:=by rw [Ym];exact Zd (Bw hx.t hy.b) (Gc h1)
  have t2:(y.num*x.den).natAbs<2^k:=by rw [Ym];exact Zd (Bw hy.t hx.b) (Gc h2)
  exact Yx (Kz _ _) (by rw [Ju,Vi];exact Up t1 t2)
 ·rw [Ym];exact Bw hx.b hy.b
theorem d30 {a:Int} (h0:0<=a) (h1:a<=1000000000):a.natAbs<2^30:=by
 have:(1000000000:Nat)<2^30:=by decide +kernel
 omega
end
namespace Mg
open DL
abbrev V:=Rat×Rat
def xr (u v:V):Rat:=u.1*v.2-u.2*v.1
def mn (a b:V):V:=(a.1-b.1,a.2-b.2)
def pl (a b:V):V:=(a.1+b.1,a.2+b.2)
def ng (u:V):V:=(-u.1,-u.2)
def up (u:V):Prop:=0<u.1\/(u.1=0/\0<u.2)
theorem Ge (u v:V):xr u v = - xr v u:=by unfold xr;grind
theorem zcc (u v:V):xr (ng u) v = - xr u v:=by unfold xr ng;grind
theorem zdf (u v:V):xr u (ng v) = - xr u v:=by unfold xr ng;grind
theorem zov (u v:V):xr (ng u) (ng v)=xr u v:=by unfold xr ng;grind
theorem Bz (u v w:V):xr u (pl v w)=xr u v+xr u w:=by unfold xr pl;grind
theorem zfy (u v w:V):xr (pl u v) w=xr u w+xr v w:=by unfold xr pl;grind
theorem nn_of_mul {a b:Rat} (hb:0<b) (h:0<=a*b):0<=a:=by
 by_cases k:0<=a
 ·exact k
 ·have:=Z2 (show 0 < -a by grind) hb
  grind
theorem up_1 {u:V} (h:up u):0<=u.1:=by rcases h with h | h <;> grind
theorem tr_le {u v w:V} (hu:up u) (hv:up v) (hw:up w) (h1:0<=xr u v) (h2:0<=xr v w):0<=xr u w:=by
 have u1:=up_1 hu;have w1:=up_1 hw;rcases hv with hv | ⟨v1,v2⟩
 ·refine nn_of_mul hv ?_;have e:xr u w*v.1=xr u v*w.1+xr v w*u.1:=by unfold xr;grind
  rw [e];have a:=Zh h1 w1;have b:=Zh h2 u1;grind
 ·have w0:w.1=0:=by
   have a:=Zh (Zr v2) w1;have e:xr v w = - (v.2*w.1):=by unfold xr;rw [v1];grind
   by_cases k:w.1=0
   ·exact k
   ·have:=Z2 v2 (show 0<w.1 by grind)
    grind
  have w2:0<w.2:=by rcases hw with h | h <;> grind
  have e:xr u w=u.1*w.2:=by unfold xr;rw [w0];grind
  rw [e];exact Zh u1 (Zr w2)
theorem tr_lt1 {u v w:V} (hu:up u) (hv:up v) (hw:up w) (h1:0<xr u v) (h2:0<=xr v w):0<xr u w:=by
 by_cases k:0<xr u w
 ·exact k
 ·have:=tr_le hv hw hu h2 (by rw [Ge];grind)
  rw [Ge] at this;grind
theorem tr_lt2 {u v w:V} (hu:up u) (hv:up v) (hw:up w) (h1:0<=xr u v) (h2:0<xr v w):0<xr u w:=by
 by_cases k:0<xr u w
 ·exact k
 ·have:=tr_le hw hu hv (by rw [Ge];grind) h1
  rw [Ge] at this;grind
def bf (u v:V):Prop:=(up u/\up (ng v))\/(up u/\up v/\0<xr u v)\/(up (ng u)/\up (ng v)/\0<xr u v)
def al (u v:V):Prop:=((up u/\up v)\/(up (ng u)/\up (ng v)))/\xr u v=0
theorem Gg {u:V} (h:up u) (k:up (ng u)):False:=by
 unfold up ng at *;rcases h with h | h <;> rcases k with k | k <;> grind
theorem zed {u v w:V} (h:bf u v) (k:bf v w):bf u w:=by
 rcases h with⟨a,b⟩ | ⟨a,b,c⟩ | ⟨a,b,c⟩ <;> rcases k with⟨d,e⟩ | ⟨d,e,f⟩ | ⟨d,e,f⟩
 ·exact (Gg d b).elim
 ·exact (Gg d b).elim
 ·exact .inl ⟨a,e⟩
 ·exact .inl ⟨a,e⟩
 ·exact .inr (.inl ⟨a,e,tr_lt1 a b e c (Zr f)⟩)
 ·exact .inl ⟨a,e⟩
 ·exact (Gg d b).elim
 ·exact (Gg d b).elim
 ·refine .inr (.inr ⟨a,e,?_⟩);rw [<- zov] at c f |-;exact tr_lt1 a b e c (Zr f)
theorem yea {u v:V} (h:al u v):al v u:=⟨h.1.imp (fun k=>⟨k.2,k.1⟩) (fun k=>⟨k.2,k.1⟩),by rw [Ge,h.2];grind⟩
theorem al_bf {u v w:V} (h:al u v) (k:bf v w):bf u w:=by
 obtain⟨k1,k2⟩:=h
 rcases k with⟨a,b⟩ | ⟨a,b,c⟩ | ⟨a,b,c⟩ <;> rcases k1 with⟨d,e⟩ | ⟨d,e⟩
 ·exact .inl ⟨d,b⟩
 ·exact (Gg a e).elim
 ·exact .inr (.inl ⟨d,b,tr_lt2 d e b (by rw [k2];exact Wp) c⟩)
 ·exact (Gg a e).elim
 ·exact (Gg e a).elim
 ·refine .inr (.inr ⟨d,b,?_⟩);rw [<- zov] at c k2 |-;exact tr_lt2 d e b (by rw [k2];exact Wp) c
structure Poly (P:Nat->V) (n:Nat):Prop where
 three:3<=n
 per:∀ i,P (i+n)=P i
 conv:∀ i k,0<=xr (mn (P (i+1)) (P i)) (mn (P k) (P i))
 turn:∀ i,0<xr (mn (P (i+1)) (P i)) (mn (P (i+2)) (P (i+1)))
 fst:up (mn (P 1) (P 0))
 lst:up (ng (mn (P n) (P (n-1))))
 half:∀ i,up (mn (P (i+1)) (P i))\/up (ng (mn (P (i+1)) (P i)))
 mono:∀ i,i+1<n->up (ng (mn (P (i+1)) (P i)))->up (ng (mn (P (i+2)) (P (i+1))))
 low:∀ k,0<k->k<n->up (mn (P k) (P 0))
def ed (P:Nat->V) (i:Nat):V:=mn (P (i+1)) (P i)
variable {P Q:Nat->V} {n m:Nat}
theorem Poly.next (h:Poly P n) {i:Nat} (hi:i+1<n):bf (ed P i) (ed P (i+1)):=by
 have t:=h.turn i;rcases h.half i with a | a
 ·rcases h.half (i+1) with b | b
  ·exact .inr (.inl ⟨a,b,t⟩)
  ·exact .inl ⟨a,b⟩
 ·exact .inr (.inr ⟨a,h.mono i hi a,t⟩)
theorem Poly.edp (h:Poly P n) (i:Nat):ed P (i+n)=ed P i:=by
 unfold ed;rw [show i+n+1=i+1+n by omega,h.per,h.per]
theorem Poly.wrap (h:Poly P n):0<xr (ed P (n-1)) (ed P 0):=by
 have t:=h.turn (n-1);have:=h.three
 rw [show n-1+2=1+n by omega,show n-1+1=0+n by omega,h.per,h.per] at t;unfold ed;rw [show n-1+1=0+n by omega,h.per];exact t
theorem Poly.lst' (h:Poly P n):up (ng (ed P (n-1))):=by
 have:=h.three
 have t:=h.lst;unfold ed;rw [show n-1+1=n by omega];exact t
structure Inv (P Q:Nat->V) (n m i j:Nat):Prop where
 a:0<i->j<m->bf (ed P (i-1)) (ed Q j)
 b:0<j->i<n->bf (ed Q (j-1)) (ed P i)
theorem Inv.symm {i j:Nat} (h:Inv P Q n m i j):Inv Q P m n j i:=⟨h.b,h.a⟩
theorem apart (hQ:Poly Q m) {i j:Nat} (I:Inv P Q n m i j) (hi:i<n) (hj:j<m) (a:up (ed P i)) (b:up (ng (ed Q j))):0<xr (ed P i) (ed Q j):=by
 have hj0:0<j:=by
  rcases Wj j with e | e
  ·subst e;exact (Gg hQ.fst b).elim
  ·exact e
 have t:=hQ.turn (j-1);rw [show j-1+2=j+1 by omega,show j-1+1=j by omega] at t;rcases I.b hj0 hi with⟨c,d⟩ | ⟨c,d,e⟩ | ⟨c,d,e⟩
 ·exact (Gg a d).elim
 ·have:0<xr (ng (ed Q j)) (ed Q (j-1)):=by
   have e1:ed Q (j-1)=mn (Q j) (Q (j-1)):=by unfold ed;rw [show j-1+1=j by omega]
   rw [zcc,Ge,e1];unfold ed;grind
  have:=tr_lt1 b c a this (Zr e)
  rw [zcc,Ge] at this;grind
 ·exact (Gg a d).elim
theorem order (hP:Poly P n) (hQ:Poly Q m) {i j:Nat} (I:Inv P Q n m i j) (hi:i<n) (hj:j<m) :
  (0<xr (ed P i) (ed Q j)->bf (ed P i) (ed Q j))/\(xr (ed P i) (ed Q j)<0->bf (ed Q j) (ed P i))/\(xr (ed P i) (ed Q j)=0->al (ed P i) (ed Q j)):=by
 rcases hP.half i with a | a <;> rcases hQ.half j with b | b
 ·exact⟨fun h=>.inr (.inl ⟨a,b,h⟩),fun h=>.inr (.inl ⟨b,a,by rw [Ge];grind⟩),fun h=>⟨.inl ⟨a,b⟩,h⟩⟩
 ·have:=apart hQ I hi hj a b
  exact⟨fun h=>.inl ⟨a,b⟩,fun h=>by grind,fun h=>by grind⟩
 ·have:=apart hP I.symm hj hi b a
  rw [Ge] at this;exact⟨fun h=>by grind,fun h=>.inl ⟨b,a⟩,fun h=>by grind⟩
 ·exact⟨fun h=>.inr (.inr ⟨a,b,h⟩),fun h=>.inr (.inr ⟨b,a,by rw [Ge];grind⟩),fun h=>⟨.inr ⟨a,b⟩,h⟩⟩
end Mg
namespace Mg
open DL
variable {P Q:Nat->V} {n m:Nat}
theorem Poly.cone (h:Poly Q m) (j:Nat) {g:V} (A:0<=xr g (ed Q j)) (B:0<=xr (ed Q (j+m-1)) g) (k:Nat):0<=xr g (mn (Q k) (Q j)):=by
 have h3:=h.three;have t:=h.turn (j+m-1);have c1:=h.conv j k;have c2:=h.conv (j+m-1) k;have e0:j+m-1+1=j+m:=by omega
 have e1:j+m-1+2=j+1+m:=by omega
 rw [e0,e1,h.per,h.per] at t;rw [e0,h.per] at c2;have e2:ed Q (j+m-1)=mn (Q j) (Q (j+m-1)):=by unfold ed;rw [e0,h.per]
 rw [e2] at B;have e3:ed Q j=mn (Q (j+1)) (Q j):=rfl;rw [e3] at A;refine nn_of_mul t ?_;generalize Q (j+m-1)=z at *;have c3:xr (mn (Q j) z) (mn (Q k) z)=xr (mn (Q j) z) (mn (Q k) (Q j)):=by unfold xr mn;grind
 rw [c3] at c2;have e:xr g (mn (Q k) (Q j))*xr (mn (Q j) z) (mn (Q (j+1)) (Q j))=xr (mn (Q j) z) (mn (Q k) (Q j))*xr g (mn (Q (j+1)) (Q j))+xr (mn (Q (j+1)) (Q j)) (mn (Q k) (Q j))*xr (mn (Q j) z) g:=by unfold xr;grind
 rw [e];have a:=Zh c2 A;have b:=Zh c1 B;grind
theorem Poly.fst' (h:Poly Q m):up (ed Q 0):=h.fst
theorem Poly.pred (h:Poly Q m) {j:Nat} (hj:0<j):ed Q (j+m-1)=ed Q (j-1):=by
 rw [show j+m-1=j-1+m by omega,h.edp]
theorem Poly.turn' (h:Poly Q m) {j:Nat} (hj:0<j):0<xr (ed Q (j-1)) (ed Q j):=by
 have t:=h.turn (j-1);unfold ed;rw [show j-1+2=j+1 by omega,show j-1+1=j by omega] at t;rw [show j-1+1=j by omega];exact t
theorem sup (hP:Poly P n) (hQ:Poly Q m) {i j:Nat} (I:Inv P Q n m i j) (hi:i<n) (hj:j=m\/(j<m/\0<=xr (ed P i) (ed Q j))) :
  0<=xr (ed P i) (ed Q j)/\0<xr (ed Q (j+m-1)) (ed P i):=by
 have h3:=hQ.three;rcases hj with e | ⟨hj,A⟩
 ·subst e;have pb:=I.b (by omega) hi;have e0:ed Q j=ed Q 0:=by have:=hQ.edp 0;rwa [Yv] at this
  rw [hQ.pred (by omega),e0];have d:=hQ.lst';have w:=hQ.wrap;rcases pb with⟨a,b⟩ | ⟨a,b,c⟩ | ⟨a,b,c⟩
  ·exact (Gg a d).elim
  ·exact (Gg a d).elim
  ·refine⟨?_,c⟩
   have x1:0<xr (ed Q 0) (ng (ed Q (j-1))):=by rw [zdf,Ge];grind
   have x2:0<xr (ng (ed Q (j-1))) (ng (ed P i)):=by rw [zov];exact c
   have:=tr_lt1 hQ.fst' a b x1 (Zr x2)
   rw [zdf,Ge] at this;grind
 ·refine⟨A,?_⟩
  have O:=order hP hQ I hi hj;rcases Wj j with e | e
  ·subst e;have d:=hQ.lst';have w:=hQ.wrap;rw [Yv];have u:up (ed P i):=by
    by_cases k:0<xr (ed P i) (ed Q 0)
    ·rcases O.1 k with⟨a,_⟩ | ⟨a,_,_⟩ | ⟨_,b,_⟩
     ·exact a
     ·exact a
     ·exact (Gg hQ.fst' b).elim
    ·rcases (O.2.2 (by grind)).1 with⟨a,_⟩ | ⟨_,b⟩
     ·exact a
     ·exact (Gg hQ.fst' b).elim
   have x1:0<xr (ed Q 0) (ng (ed Q (m-1))):=by rw [zdf,Ge];grind
   have:=tr_lt2 u hQ.fst' d A x1
   rw [zdf,Ge] at this;grind
  ·rw [hQ.pred e];rcases I.b e hi with⟨a,b⟩ | ⟨a,b,c⟩ | ⟨a,b,c⟩
   ·have dn:up (ng (ed Q j)):=by
     by_cases k:0<xr (ed P i) (ed Q j)
     ·rcases O.1 k with⟨a',_⟩ | ⟨a',_,_⟩ | ⟨_,b',_⟩
      ·exact (Gg a' b).elim
      ·exact (Gg a' b).elim
      ·exact b'
     ·rcases (O.2.2 (by grind)).1 with⟨a',_⟩ | ⟨_,b'⟩
      ·exact (Gg a' b).elim
      ·exact b'
    have t:=hQ.turn' e;have x1:0<xr (ng (ed Q j)) (ed Q (j-1)):=by rw [zcc,Ge];grind
    have x0:0<=xr (ng (ed P i)) (ng (ed Q j)):=by rw [zov];exact A
    have:=tr_lt2 b dn a x0 x1
    rw [zcc,Ge] at this;grind
   ·exact c
   ·exact c
def Stp (P Q:Nat->V) (n m:Nat) (s t:Nat×Nat):Prop:=
 (t=(s.1+1,s.2)/\s.1<n/\(s.2=m\/(s.2<m/\0<xr (ed P s.1) (ed Q s.2)))) \/
 (t=(s.1,s.2+1)/\s.2<m/\(s.1=n\/(s.1<n/\xr (ed P s.1) (ed Q s.2)<0))) \/
 (t=(s.1+1,s.2+1)/\s.1<n/\s.2<m/\xr (ed P s.1) (ed Q s.2)=0)
def at2 (P Q:Nat->V) (s:Nat×Nat):V:=pl (P s.1) (Q s.2)
def gw (P Q:Nat->V) (s t:Nat×Nat):V:=mn (at2 P Q t) (at2 P Q s)
theorem gw1 (i j:Nat):gw P Q (i,j) (i+1,j)=ed P i:=by
 unfold gw at2 ed mn pl;exact Z5 (by dsimp only;grind) (by dsimp only;grind)
theorem gw2 (i j:Nat):gw P Q (i,j) (i,j+1)=ed Q j:=by
 unfold gw at2 ed mn pl;exact Z5 (by dsimp only;grind) (by dsimp only;grind)
theorem gw3 (i j:Nat):gw P Q (i,j) (i+1,j+1)=pl (ed P i) (ed Q j):=by
 unfold gw at2 ed mn pl;exact Z5 (by dsimp only;grind) (by dsimp only;grind)
structure StepOk (P Q:Nat->V) (n m:Nat) (s t:Nat×Nat):Prop where
 inv:Inv P Q n m t.1 t.2
 lowP:∀ k,0<=xr (gw P Q s t) (mn (P k) (P s.1))
 lowQ:∀ k,0<=xr (gw P Q s t) (mn (Q k) (Q s.2))
 fromP:0<xr (ed P (s.1+n-1)) (gw P Q s t)
 fromQ:0<xr (ed Q (s.2+m-1)) (gw P Q s t)
theorem Poly.turnp (h:Poly Q m) (j:Nat):0<xr (ed Q (j+m-1)) (ed Q j):=by
 have h3:=h.three;rcases Wj j with e | e
 ·subst e;rw [Yv];exact h.wrap
 ·rw [h.pred e];exact h.turn' e
theorem zmp (hP:Poly P n) (hQ:Poly Q m) {i j:Nat} (I:Inv P Q n m i j) (hi:i<n) (hjm:j<=m) (hj:j=m\/(j<m/\0<xr (ed P i) (ed Q j))):StepOk P Q n m (i,j) (i+1,j):=by
 have S:=sup hP hQ I hi (hj.imp_right fun h=>⟨h.1,Zr h.2⟩);refine⟨⟨fun _ h=>?_,fun h k=>?_⟩,fun k=>?_,fun k=>?_,?_,?_⟩
 ·rw [W0];rcases hj with e | ⟨h1,h2⟩
  ·exact absurd h (by dsimp only;omega)
  ·exact (order hP hQ I hi h1).1 h2
 ·exact zed (I.b h hi) (hP.next k)
 ·rw [gw1];exact hP.conv i k
 ·rw [gw1];exact hQ.cone j S.1 (Zr S.2) k
 ·rw [gw1];exact hP.turnp i
 ·rw [gw1];exact S.2
theorem zhr (i j i' j':Nat):gw Q P (j,i) (j',i')=gw P Q (i,j) (i',j'):=by
 unfold gw at2 mn pl;exact Z5 (by dsimp only;grind) (by dsimp only;grind)
theorem StepOk.swap {i j i' j':Nat} (h:StepOk Q P m n (j,i) (j',i')):StepOk P Q n m (i,j) (i',j'):=
 ⟨h.inv.symm,fun k=>by have:=h.lowQ k;rwa [zhr] at this,fun k=>by have:=h.lowP k;rwa [zhr] at this,by have:=h.fromQ;rwa [zhr] at this,by have:=h.fromP;rwa [zhr] at this⟩
theorem zsm (hP:Poly P n) (hQ:Poly Q m) {i j:Nat} (I:Inv P Q n m i j) (hi:i<n) (hj:j<m) (h0:xr (ed P i) (ed Q j)=0):StepOk P Q n m (i,j) (i+1,j+1):=by
 have S:=sup hP hQ I hi (.inr ⟨hj,by rw [h0];exact Wp⟩);have h0':xr (ed Q j) (ed P i)=0:=by rw [Ge,h0];grind
 have S':=sup hQ hP I.symm hj (.inr ⟨hi,by rw [h0'];exact Wp⟩);have AL:=(order hP hQ I hi hj).2.2 h0;refine⟨⟨fun _ h=>?_,fun _ k=>?_⟩,fun k=>?_,fun k=>?_,?_,?_⟩
 ·rw [W0];exact al_bf AL (hQ.next h)
 ·rw [W0];exact al_bf (yea AL) (hP.next k)
 ·rw [gw3,zfy];have a:=hP.conv i k;have b:=hP.cone i S'.1 (Zr S'.2) k;unfold ed at *;grind
 ·rw [gw3,zfy];have a:=hQ.conv j k;have b:=hQ.cone j S.1 (Zr S.2) k;unfold ed at *;grind
 ·rw [gw3,Bz];have a:=hP.turnp i;have b:=S'.2;grind
 ·rw [gw3,Bz];have a:=hQ.turnp j;have b:=S.2;grind
theorem zhc (hP:Poly P n) (hQ:Poly Q m) {s t:Nat×Nat} (I:Inv P Q n m s.1 s.2) (h1:s.1<=n) (h2:s.2<=m) (h:Stp P Q n m s t):StepOk P Q n m s t:=by
 obtain⟨i,j⟩:=s
 dsimp only at *;rcases h with⟨e,a,b⟩ | ⟨e,a,b⟩ | ⟨e,a,b,c⟩
 ·rw [e];exact zmp hP hQ I a h2 b
 ·rw [e];exact (zmp hQ hP I.symm a h1 (b.imp_right fun k=>⟨k.1,by rw [Ge];have:=k.2;grind⟩)).swap
 ·rw [e];exact zsm hP hQ I a b c
end Mg
namespace Mg
open DL
variable {P Q:Nat->V} {n m:Nat}
theorem Bt {a b:Rat} (hb:0<b) (h:b*a=0):a=0:=by
 rcases zhh a 0 with k | k | k
 ·have:=Z2 hb (show 0 < -a by grind);grind
 ·exact k
 ·have:=Z2 hb k;grind
theorem ext0 {d:V} (h1:d.1=0) (h2:d.2=0):d=(0,0):=Z5 h1 h2
theorem zqy {a b:V} (h:mn a b=(0,0)):a=b:=by
 have h1:=congrArg Prod.fst h;have h2:=congrArg Prod.snd h;unfold mn at h1 h2;exact Z5 (by dsimp only at h1;grind) (by dsimp only at h2;grind)
theorem xr_id (u v w:V):xr u v*w.1=xr u w*v.1+xr w v*u.1/\xr u v*w.2=xr u w*v.2+xr w v*u.2:=by
 unfold xr;constructor <;> grind
theorem share {u g d:V} (hT:0<xr u g) (h0:xr g d=0) (ha:0<=xr u d) (hd:d≠(0,0)):0<xr u d/\∀ h:V,xr u g*xr h d=xr u d*xr h g:=by
 have h0':xr d g=0:=by rw [Ge,h0];grind
 obtain⟨e1,e2⟩:=xr_id u g d
 rw [h0'] at e1 e2;refine⟨?_,fun h=>?_⟩
 ·by_cases k:0<xr u d
  ·exact k
  ·have z:xr u d=0:=by grind
   rw [z] at e1 e2;exact absurd (ext0 (Bt hT (by grind)) (Bt hT (by grind))) hd
 ·have:xr u g*xr h d=h.1*(xr u g*d.2)-h.2*(xr u g*d.1):=by unfold xr;grind
  rw [this,e1,e2];unfold xr;grind
theorem zug {a b c a' b' c' c'':V} (w1:0<=xr (mn a a') (mn c a')) (t1:0<xr (mn a a') (mn b a)) (w2:0<=xr (mn b' b) (mn c b)) (t2:0<xr (mn b a) (mn b' b))
  (wa:0<=xr (mn c'' c) (mn a c)) (wb:0<=xr (mn c'' c) (mn b c)) (va:0<=xr (mn c c') (mn a c')) (vb:0<=xr (mn c c') (mn b c')) (t3:0<xr (mn c c') (mn c'' c))
  (w:0<=xr (mn b a) (mn c a)) (ha:c≠a) (hb:c≠b):0<xr (mn b a) (mn c a):=by
 by_cases k:0<xr (mn b a) (mn c a)
 ·exact k
 exfalso
 have z:xr (mn b a) (mn c a)=0:=by grind
 have z2:xr (mn b a) (mn b c)=0:=by
  have:xr (mn b a) (mn b c) = - xr (mn b a) (mn c a):=by unfold xr mn;grind
  rw [this,z];grind
 have w1':0<=xr (mn a a') (mn c a):=by
  have:xr (mn a a') (mn c a')=xr (mn a a') (mn c a):=by unfold xr mn;grind
  rw [<- this];exact w1
 obtain⟨p1,s1⟩:=share t1 z w1' fun e=>ha (zqy e)
 have t2':0<xr (ng (mn b' b)) (mn b a):=by rw [zcc,Ge];grind
 have w2':0<=xr (ng (mn b' b)) (mn b c):=by
  have:xr (ng (mn b' b)) (mn b c)=xr (mn b' b) (mn c b):=by unfold xr mn ng;grind
  rw [this];exact w2
 obtain⟨p2,s2⟩:=share t2' z2 w2' fun e=>hb (zqy e).symm
 have flat:∀ h:V,0<=xr h (mn a c)->0<=xr h (mn b c)->xr h (mn b a)=0:=fun h k1 k2=>by
  have q1:=s1 h;have q2:=s2 h;have e:xr h (mn a c) = - xr h (mn c a):=by unfold xr mn;grind
  rw [e] at k1;have g1:=Zh (Zr t1) k1;have g2:=Zh (Zr t2') k2;have r2:0<=xr h (mn b a):=nn_of_mul p2 (by grind);have r1:0 <= - xr h (mn b a):=nn_of_mul p1 (by grind);grind
 have f1:=flat _ wa wb;have va':0<=xr (mn c c') (mn a c):=by
  have:xr (mn c c') (mn a c')=xr (mn c c') (mn a c):=by unfold xr mn;grind
  rw [<- this];exact va
 have vb':0<=xr (mn c c') (mn b c):=by
  have:xr (mn c c') (mn b c')=xr (mn c c') (mn b c):=by unfold xr mn;grind
  rw [<- this];exact vb
 have f2:=flat _ va' vb';obtain⟨e1,e2⟩:=xr_id (mn c c') (mn c'' c) (mn b a)
 have f1':xr (mn b a) (mn c'' c)=0:=by rw [Ge,f1];grind
 rw [f2,f1'] at e1 e2;have g0:mn b a=(0,0):=ext0 (Bt t3 (by grind)) (Bt t3 (by grind));rw [g0] at t1;unfold xr at t1;dsimp only at t1;grind
inductive Tr (P Q:Nat->V) (n m:Nat):Nat×Nat->List (Nat×Nat)->Prop
 | nil:Tr P Q n m (n,m) []
 | cons {s t l}:Inv P Q n m s.1 s.2->s.1<=n->s.2<=m->Stp P Q n m s t->Tr P Q n m t l->Tr P Q n m s (s::l)
theorem Tr.get {s:Nat×Nat} {l:List (Nat×Nat)} (h:Tr P Q n m s l):∀ {k:Nat} {x:Nat×Nat},l[k]? = some x->∃ y,Inv P Q n m x.1 x.2/\x.1<=n/\x.2<=m/\Stp P Q n m x y/\(l[k+1]? = some y\/(k+1=l.length/\y=(n,m))):=by
 induction h with
 | nil=>intro k x h;cases h
 | @cons s t l I a b S T ih=>
  intro k x h;cases k with
  | zero=>
   cases h;refine⟨t,I,a,b,S,?_⟩
   cases T with
   | nil=>exact .inr ⟨rfl,rfl⟩
   | cons _ _ _ _ _=>exact .inl rfl
  | succ k=>
   obtain⟨y,r1,r2,r3,r4,r5⟩:=ih (k:=k) h
   exact⟨y,r1,r2,r3,r4,r5.imp id fun q=>⟨by rw [Zu,q.1],q.2⟩⟩
theorem Tr.head {s:Nat×Nat} {l:List (Nat×Nat)} (h:Tr P Q n m s l) (hs:s≠(n,m)):l[0]? = some s:=by
 cases h with
 | nil=>exact absurd rfl hs
 | cons _ _ _ _ _=>rfl
theorem Tr.len {s:Nat×Nat} {l:List (Nat×Nat)} (h:Tr P Q n m s l):n<=s.1+l.length:=by
 induction h with
 | nil=>exact Zj _
 | @cons s t l I a b S T ih=>
  rw [Zu];have:t.1<=s.1+1:=by rcases S with⟨e,_⟩ | ⟨e,_⟩ | ⟨e,_⟩ <;> rw [e] <;> dsimp only <;> omega
  omega
end Mg
namespace Mg
open DL
variable {P Q:Nat->V} {n m:Nat}
theorem StepOk.left {s t:Nat×Nat} (h:StepOk P Q n m s t) (z:Nat×Nat):0<=xr (gw P Q s t) (mn (at2 P Q z) (at2 P Q s)):=by
 have a:=h.lowP z.1;have b:=h.lowQ z.2;have e:xr (gw P Q s t) (mn (at2 P Q z) (at2 P Q s))=xr (gw P Q s t) (mn (P z.1) (P s.1))+xr (gw P Q s t) (mn (Q z.2) (Q s.2)):=by
  generalize gw P Q s t=g;unfold at2 xr mn pl;grind
 rw [e];grind
theorem zpe (hP:Poly P n) (hQ:Poly Q m) {s t:Nat×Nat} (h:Stp P Q n m s t) {v:V} (a:0<xr (ed P (t.1+n-1)) v) (b:0<xr (ed Q (t.2+m-1)) v):0<xr (gw P Q s t) v:=by
 obtain⟨i,j⟩:=s
 rcases h with⟨e,_⟩ | ⟨e,_⟩ | ⟨e,_⟩ <;> subst e <;> dsimp only at a b
 ·rw [hP.pred (by omega),W0] at a;rw [gw1];exact a
 ·rw [hQ.pred (by omega),W0] at b;rw [gw2];exact b
 ·rw [hP.pred (by omega),W0] at a;rw [hQ.pred (by omega),W0] at b;rw [gw3,zfy];grind
theorem Stp.uniq {s t t':Nat×Nat} (h:Stp P Q n m s t) (k:Stp P Q n m s t'):t=t':=by
 rcases h with⟨e,a,b⟩ | ⟨e,a,b⟩ | ⟨e,a,b,c⟩ <;> rcases k with⟨e',a',b'⟩ | ⟨e',a',b'⟩ | ⟨e',a',b',c'⟩
 ·rw [e,e']
 ·rcases b with b | b <;> rcases b' with b' | b' <;> first | omega | (exfalso;have:=b.2;have:=b'.2;grind)
 ·rcases b with b | b
  ·omega
  ·exfalso;have:=b.2;grind
 ·rcases b with b | b <;> rcases b' with b' | b' <;> first | omega | (exfalso;have:=b.2;have:=b'.2;grind)
 ·rw [e,e']
 ·rcases b with b | b
  ·omega
  ·exfalso;have:=b.2;grind
 ·rcases b' with b' | b'
  ·omega
  ·exfalso;have:=b'.2;grind
 ·rcases b' with b' | b'
  ·omega
  ·exfalso;have:=b'.2;grind
 ·rw [e,e']
structure Cor (P Q:Nat->V) (n m:Nat) (T:List (Nat×Nat)) (k:Nat) (x y p q:Nat×Nat):Prop where
 out:StepOk P Q n m x y
 st:Stp P Q n m x y
 pre:T[(k+T.length-1)%T.length]? = some p
 inn:StepOk P Q n m p q
 ist:Stp P Q n m p q
 same:at2 P Q q=at2 P Q x
 turn:0<xr (gw P Q p q) (gw P Q x y)
theorem zhw (hP:Poly P n) (hQ:Poly Q m):at2 P Q (n,m)=at2 P Q (0,0):=by
 have a:=hP.per 0;have b:=hQ.per 0;rw [Yv] at a b;unfold at2;rw [a,b]
theorem Tr.cor (hP:Poly P n) (hQ:Poly Q m) {T:List (Nat×Nat)} (h:Tr P Q n m (0,0) T) {k:Nat} {x:Nat×Nat} (hk:T[k]? = some x):∃ y p q,Cor P Q n m T k x y p q:=by
 have n3:=hP.three;obtain⟨y,I,a,b,S,_⟩:=h.get hk
 have O:=zhc hP hQ I a b S;have hl:k<T.length:=by
  rcases Yg k T.length with h | h
  ·exact h
  ·rw [Yr h] at hk;cases hk
 rcases Wj k with e | e
 ·subst e;have h0:=h.head (by intro e;have:=congrArg Prod.fst e;dsimp only at this;omega);rw [h0] at hk;cases hk;have e1:(0+T.length-1)%T.length=T.length-1:=by rw [Yv];exact Zo (by omega)
  have hp:T[T.length-1]? = some (T[T.length-1]):=Ze (by omega);obtain⟨q,I',a',b',S',r⟩:=h.get hp
  have hq:q=(n,m):=by
   rcases r with r | r
   ·rw [Yr (by omega)] at r;cases r
   ·exact r.2
  subst hq;refine⟨y,_,(n,m),O,S,by rw [e1];exact hp,zhc hP hQ I' a' b' S',S',zhw hP hQ,zpe hP hQ S' ?_ ?_⟩
  ·have:=O.fromP
   dsimp only at this |-;rw [Yv] at this;rw [show n+n-1=n-1+n by omega,hP.edp];exact this
  ·have:=O.fromQ
   have m3:=hQ.three;dsimp only at this |-;rw [Yv] at this;rw [show m+m-1=m-1+m by omega,hQ.edp];exact this
 ·have e1:(k+T.length-1)%T.length=k-1:=by
   rw [show k+T.length-1=k-1+T.length by omega,Y7];exact Zo (by omega)
  have hp:T[k-1]? = some (T[k-1]):=Ze (by omega);obtain⟨q,I',a',b',S',r⟩:=h.get hp
  have hq:q=x:=by
   rw [show k-1+1=k by omega] at r;rcases r with r | r
   ·rw [hk] at r;cases r;rfl
   ·omega
  subst hq;exact⟨y,_,q,O,S,by rw [e1];exact hp,zhc hP hQ I' a' b' S',S',rfl,zpe hP hQ S' O.fromP O.fromQ⟩
theorem Tr.sum {s:Nat×Nat} {l:List (Nat×Nat)} (h:Tr P Q n m s l):∀ {k:Nat} {x:Nat×Nat},l[k]? = some x->s.1+s.2+k<=x.1+x.2:=by
 induction h with
 | nil=>intro k x h;cases h
 | @cons s t l I a b S T ih=>
  intro k x h;cases k with
  | zero=>cases h;exact Zj _
  | succ k=>
   have r:=ih (k:=k) h;have:s.1+s.2+1<=t.1+t.2:=by rcases S with⟨e,_⟩ | ⟨e,_⟩ | ⟨e,_⟩ <;> rw [e] <;> dsimp only <;> omega
   omega
theorem up_pl {u v:V} (h:up u) (k:up v):up (pl u v):=by
 unfold up pl at *;dsimp only;rcases h with h | h <;> rcases k with k | k
 ·exact .inl (by grind)
 ·exact .inl (by grind)
 ·exact .inl (by grind)
 ·exact .inr ⟨by grind,by grind⟩
theorem ltR_up {a b:V}:ltR a b↔up (mn b a):=by
 unfold ltR up mn;dsimp only;constructor
 ·rintro (h | ⟨h,k⟩)
  ·exact .inl (by grind)
  ·exact .inr ⟨by grind,by grind⟩
 ·rintro (h | ⟨h,k⟩)
  ·exact .inl (by grind)
  ·exact .inr ⟨by grind,by grind⟩
theorem pl_0 (u:V):pl u (0,0)=u:=by unfold pl;exact Z5 (by dsimp only;grind) (by dsimp only;grind)
theorem yba (u:V):pl (0,0) u=u:=by unfold pl;exact Z5 (by dsimp only;grind) (by dsimp only;grind)
theorem zak (u:V):mn u u=(0,0):=by unfold mn;exact Z5 (by dsimp only;grind) (by dsimp only;grind)
theorem Tr.shape (hP:Poly P n) (hQ:Poly Q m) {T:List (Nat×Nat)} (h:Tr P Q n m (0,0) T):IsShp (T.map (at2 P Q)):=by
 have n3:=hP.three;have m3:=hQ.three;have hl:=h.len;dsimp only at hl;refine⟨by rw [Zc];omega,fun k q0 q h0 hk=>?_,fun k a b c ha hb hc ca cb=>?_⟩
 ·rw [Zi] at h0 hk;rw [h.head (by intro e;have:=congrArg Prod.fst e;dsimp only at this;omega)] at h0;cases h0;cases hx:T[k+1]? with
  | none=>rw [hx] at hk;cases hk
  | some x=>
   rw [hx] at hk;cases hk;obtain⟨y,I,a,b,S,_⟩:=h.get hx
   have sm:=h.sum hx;dsimp only at sm;rw [ltR_up];have e:mn (at2 P Q x) (at2 P Q (0,0))=pl (mn (P x.1) (P 0)) (mn (Q x.2) (Q 0)):=by
    unfold at2 mn pl;exact Z5 (by dsimp only;grind) (by dsimp only;grind)
   rw [e];have pp:∀ {R:Nat->V} {r i:Nat},Poly R r->i<=r->(i=0\/i=r)/\mn (R i) (R 0)=(0,0)\/up (mn (R i) (R 0)):=fun {R r i} hR hi=>by
    rcases Wj i with e | e
    ·subst e;exact .inl ⟨.inl rfl,zak _⟩
    ·rcases Yg i r with k | k
     ·exact .inr (hR.low i e k)
     ·have:i=r:=by omega
      subst this;have q:=hR.per 0;rw [Yv] at q;exact .inl ⟨.inr rfl,by rw [q];exact zak _⟩
   rcases pp hP a with⟨u1,u2⟩ | u <;> rcases pp hQ b with⟨v1,v2⟩ | v
   ·exfalso
    obtain⟨i,j⟩:=x
    dsimp only at *;rcases u1 with u1 | u1 <;> rcases v1 with v1 | v1
    ·omega
    ·subst u1 v1;have:=I.b (by omega) (by omega)
     rcases this with⟨c,d⟩ | ⟨c,d,_⟩ | ⟨c,d,_⟩
     ·exact Gg hP.fst d
     ·exact Gg c hQ.lst'
     ·exact Gg hP.fst d
    ·subst u1 v1;have:=I.a (by omega) (by omega)
     rcases this with⟨c,d⟩ | ⟨c,d,_⟩ | ⟨c,d,_⟩
     ·exact Gg hQ.fst d
     ·exact Gg c hP.lst'
     ·exact Gg hQ.fst d
    ·subst u1 v1;rcases S with⟨_,c,_⟩ | ⟨_,c,_⟩ | ⟨_,c,_⟩ <;> dsimp only at c <;> omega
   ·rw [u2,yba];exact v
   ·rw [v2,pl_0];exact u
   ·exact up_pl u v
 ·rw [Zc] at ha;rw [Zi] at ha hb;cases hx:T[k]? with
  | none=>rw [hx] at hb;cases hb
  | some x=>
   rw [hx] at hb;cases hb;obtain⟨y,p,q,C⟩:=h.cor hP hQ hx
   rw [C.pre] at ha;cases ha;obtain⟨y1,p1,q1,C1⟩:=h.cor hP hQ C.pre
   obtain⟨z,hz,ez⟩:=Zv.mp hc
   obtain⟨i,hi⟩:=Wa hz
   obtain⟨y2,p2,q2,C2⟩:=h.cor hP hQ hi
   subst ez;have E0:mn (at2 P Q x) (at2 P Q p)=gw P Q p q:=by rw [<- C.same];rfl
   have E1:mn (at2 P Q p) (at2 P Q p1)=gw P Q p1 q1:=by rw [<- C1.same];rfl
   have E2:mn (at2 P Q z) (at2 P Q p2)=gw P Q p2 q2:=by rw [<- C2.same];rfl
   have oq:oR (at2 P Q p) (at2 P Q x) (at2 P Q z)=xr (mn (at2 P Q x) (at2 P Q p)) (mn (at2 P Q z) (at2 P Q p)):=by unfold oR xr mn;rfl
   rw [oq];have t1:=C1.turn;have yq:gw P Q p y1=gw P Q p q:=by rw [C1.st.uniq C.ist]
   refine zug (a':=at2 P Q p1) (b':=at2 P Q y) (c':=at2 P Q p2) (c'':=at2 P Q y2) ?_ ?_ ?_ ?_ ?_ ?_ ?_ ?_ ?_ ?_ ca cb
   ·rw [E1];exact C1.inn.left z
   ·rw [E1,E0,<- yq];exact t1
   ·exact C.out.left z
   ·rw [E0];exact C.turn
   ·exact C2.out.left p
   ·exact C2.out.left x
   ·rw [E2];exact C2.inn.left p
   ·rw [E2];exact C2.inn.left x
   ·rw [E2];exact C2.turn
   ·rw [E0];exact C.inn.left z
end Mg
namespace Mg
open DL
variable {P Q:Nat->V} {n m:Nat}
def bend (P Q:Nat->V) (n m i j:Nat):Rat:=if j<m then (if i<n then xr (ed P i) (ed Q j) else -1) else 1
def nxt (P Q:Nat->V) (n m:Nat) (s:Nat×Nat):Nat×Nat:=(if 0<=bend P Q n m s.1 s.2 then s.1+1 else s.1,if bend P Q n m s.1 s.2<=0 then s.2+1 else s.2)
def walk (P Q:Nat->V) (n m:Nat):Nat->Nat×Nat->List (Nat×Nat)
 | 0,_=>[]
 | k+1,s=>if s.1<n\/s.2<m then s::walk P Q n m k (nxt P Q n m s) else []
theorem zqq {s:Nat×Nat} (h1:s.1<=n) (h2:s.2<=m) (h:s.1<n\/s.2<m):Stp P Q n m s (nxt P Q n m s):=by
 obtain⟨i,j⟩:=s
 unfold nxt Stp bend;dsimp only at *;by_cases hj:j<m
 ·rw [if_pos hj];by_cases hi:i<n
  ·rw [if_pos hi];rcases zhh (xr (ed P i) (ed Q j)) 0 with k | k | k
   ·rw [if_neg (by grind),if_pos (by grind)];exact .inr (.inl ⟨rfl,hj,.inr ⟨hi,k⟩⟩)
   ·rw [if_pos (by grind),if_pos (by grind)];exact .inr (.inr ⟨rfl,hi,hj,k⟩)
   ·rw [if_pos (by grind),if_neg (by grind)];exact .inl ⟨rfl,hi,.inr ⟨hj,k⟩⟩
  ·rw [if_neg hi,if_neg (by decide),if_pos (by decide)];exact .inr (.inl ⟨rfl,hj,.inl (by omega)⟩)
 ·rw [if_neg hj,if_pos (by decide),if_neg (by decide)];exact .inl ⟨rfl,by omega,.inl (by omega)⟩
theorem zoy (hP:Poly P n) (hQ:Poly Q m):∀ (k:Nat) {s:Nat×Nat},Inv P Q n m s.1 s.2->s.1<=n->s.2<=m->n+m<=k+s.1+s.2->Tr P Q n m s (walk P Q n m k s)
 | 0,s,I,h1,h2,h=>by
  have:s=(n,m):=Z5 (by dsimp only;omega) (by dsimp only;omega)
  subst this;exact .nil
 | k+1,s,I,h1,h2,h=>by
  unfold walk;by_cases c:s.1<n\/s.2<m
  ·rw [if_pos c];have S:=zqq (P:=P) (Q:=Q) h1 h2 c;have O:=zhc hP hQ I h1 h2 S;have b:(nxt P Q n m s).1<=n/\(nxt P Q n m s).2<=m/\s.1+s.2+1<=(nxt P Q n m s).1+(nxt P Q n m s).2:=by
    rcases S with⟨e,a,_⟩ | ⟨e,a,_⟩ | ⟨e,a,a',_⟩ <;> rw [e] <;> dsimp only <;> omega
   exact .cons I h1 h2 S (zoy hP hQ k O.inv b.1 b.2.1 (by omega))
  ·rw [if_neg c];have:s=(n,m):=Z5 (by dsimp only;omega) (by dsimp only;omega)
   subst this;exact .nil
theorem zeh (hP:Poly P n) (hQ:Poly Q m) {k:Nat} (h:n+m<=k):Tr P Q n m (0,0) (walk P Q n m k (0,0)):=
 zoy hP hQ k ⟨fun h=>by omega,fun h=>by omega⟩ (Yi _) (Yi _) (by dsimp only;omega)
def rnd (l:List V) (i:Nat):V:=l.getD (i%l.length) (0,0)
theorem Gq {l:List V} (h:0<l.length) (i:Nat):l[i%l.length]? = some (rnd l i):=by
 unfold rnd;have:=Qc i h
 rw [Zk,Ze this];rfl
theorem G7 {l:List V} (h:0<l.length) (i:Nat):rnd l i∈l:=Yh (Gq h i)
theorem zhg {l:List V} (nd:l.Nodup) (h:0<l.length) {i j:Nat} (e:rnd l i=rnd l j):i%l.length=j%l.length:=by
 have a:=Gq h i;have b:=Gq h j;have hi:=Qc i h;rw [<- e,<- a] at b;exact ((List.getElem?_inj hi nd).mp b.symm)
theorem zah (u:V):xr u u=0:=by unfold xr;grind
theorem xr_0 (u:V):xr u (0,0)=0:=by unfold xr;grind
theorem ybq {e f d:V} (he:up e) (hf:up (ng f)) (hD:0<xr f e) (a:0<=xr f d) (b:0<=xr e d) (hd:up (ng d)):False:=by
 have i1:xr f e*d.1=xr f d*e.1+xr e d*(ng f).1:=by unfold xr ng;grind
 have i2:xr f e*d.2=xr f d*e.2+xr e d*(ng f).2:=by unfold xr ng;grind
 generalize ng f=g at *;generalize xr f e=D at *;generalize xr f d=x at *;generalize xr e d=y at *;have e1:=up_1 he;have g1:=up_1 hf;have m1:=Zh a e1;have m2:=Zh b g1;have d1:0<=d.1:=nn_of_mul hD (by grind);unfold up ng at hd;dsimp only at hd;rcases hd with hd | ⟨hd,hd2⟩
 ·grind
 ·have z:d.1=0:=by grind
  rw [z] at i1;have z1:x*e.1=0:=by grind
  have z2:y*g.1=0:=by grind
  have p1:0<=x*e.2:=by
   rcases he with k | ⟨_,k⟩
   ·have:x=0:=Bt k (by grind)
    rw [this];grind
   ·exact Zh a (Zr k)
  have p2:0<=y*g.2:=by
   rcases hf with k | ⟨_,k⟩
   ·have:y=0:=Bt k (by grind)
    rw [this];grind
   ·exact Zh b (Zr k)
  have:0<=d.2:=nn_of_mul hD (by grind)
  grind
theorem B3 {l:List V} (h:IsShp l) (nd:l.Nodup):Poly (rnd l) l.length:=by
 have h3:=h.three;have l0:0<l.length:=by omega
 have per:∀ i,rnd l (i+l.length)=rnd l i:=fun i=>by unfold rnd;rw [Y7]
 have cv:∀ i k,rnd l k≠rnd l i->rnd l k≠rnd l (i+1)->0<oR (rnd l i) (rnd l (i+1)) (rnd l k):=fun i k h1 h2=>by
  refine h.conv ((i+1)%l.length) _ _ _ ?_ (Gq l0 (i+1)) (G7 l0 k) h1 h2;have:((i+1)%l.length+l.length-1)%l.length=i%l.length:=by
   have a:=Qc (i+1) l0;have e:(i+1)%l.length+l.length-1=(i+1)%l.length+(l.length-1):=by omega
   rw [e,Qw,show i+1+(l.length-1)=i+l.length by omega,Y7]
  rw [this];exact Gq l0 i
 have oX:∀ a b c:V,oR a b c=xr (mn b a) (mn c a):=fun a b c=>by unfold oR xr mn;rfl
 have conv:∀ i k,0<=xr (mn (rnd l (i+1)) (rnd l i)) (mn (rnd l k) (rnd l i)):=fun i k=>by
  by_cases h1:rnd l k=rnd l i
  ·rw [h1,zak,xr_0];exact Wp
  ·by_cases h2:rnd l k=rnd l (i+1)
   ·rw [h2,zah];exact Wp
   ·have:=cv i k h1 h2
    rw [oX] at this;exact Zr this
 have ne1:∀ i,rnd l (i+1)≠rnd l i:=fun i e=>by
  have:=zhg nd l0 e
  have a:=Qc i l0;rw [<- Qw] at this;rcases Yg (i%l.length+1) l.length with k | k
  ·rw [Zo k] at this;omega
  ·rw [show i%l.length+1=l.length by omega,Q9] at this;omega
 have ne2:∀ i,rnd l (i+2)≠rnd l i:=fun i e=>by
  have:=zhg nd l0 e
  have a:=Qc i l0;rw [<- Qw] at this;rcases Yg (i%l.length+2) l.length with k | k
  ·rw [Zo k] at this;omega
  ·rw [show i%l.length+2=i%l.length+2-l.length+l.length by omega,Y7,Zo (by omega)] at this;omega
 have turn:∀ i,0<xr (mn (rnd l (i+1)) (rnd l i)) (mn (rnd l (i+2)) (rnd l (i+1))):=fun i=>by
  have:=cv i (i+2) (ne2 i) (ne1 (i+1))
  rw [oX] at this;have e:xr (mn (rnd l (i+1)) (rnd l i)) (mn (rnd l (i+2)) (rnd l (i+1)))=xr (mn (rnd l (i+1)) (rnd l i)) (mn (rnd l (i+2)) (rnd l i)):=by
   generalize rnd l (i+1)=b;generalize rnd l (i+2)=c;unfold xr mn;grind
  rw [e];exact this
 have low:∀ k,0<k->k<l.length->up (mn (rnd l k) (rnd l 0)):=fun k k0 k1=>by
  have a:=Gq l0 0;have b:=Gq l0 k;rw [U3] at a;rw [Zo k1] at b;rw [show k=k-1+1 by omega] at b;rw [<- ltR_up];have:=h.first (k-1) _ _ a b
  rw [show k-1+1=k by omega] at this;exact this
 have half:∀ i,up (mn (rnd l (i+1)) (rnd l i))\/up (ng (mn (rnd l (i+1)) (rnd l i))):=fun i=>by
  rcases ybu (rnd l i) (rnd l (i+1)) with k | k | k
  ·exact .inl (ltR_up.mp k)
  ·exact absurd k.symm (ne1 i)
  ·refine .inr ?_;have:=ltR_up.mp k
   have e:ng (mn (rnd l (i+1)) (rnd l i))=mn (rnd l i) (rnd l (i+1)):=by
    unfold ng mn;exact Z5 (by dsimp only;grind) (by dsimp only;grind)
   rw [e];exact this
 refine⟨h3,per,conv,turn,low 1 (by omega) (by omega),?_,half,?_,low⟩
 ·have e:=per 0;rw [Yv] at e;rw [e];have:=low (l.length-1) (by omega) (by omega)
  have e:ng (mn (rnd l 0) (rnd l (l.length-1)))=mn (rnd l (l.length-1)) (rnd l 0):=by
   unfold ng mn;exact Z5 (by dsimp only;grind) (by dsimp only;grind)
  rw [e];exact this
 ·intro i hi a;rcases half (i+1) with u | u
  ·exfalso
   have lo:=low (i+1) (by omega) hi;have c1:=conv (i+1) 0;have c2:=conv i 0;refine ybq (d:=mn (rnd l 0) (rnd l (i+1))) u a (turn i) ?_ c1 ?_
   ·have e:xr (mn (rnd l (i+1)) (rnd l i)) (mn (rnd l 0) (rnd l (i+1)))=xr (mn (rnd l (i+1)) (rnd l i)) (mn (rnd l 0) (rnd l i)):=by
     generalize rnd l (i+1)=b;generalize rnd l 0=c;unfold xr mn;grind
    rw [e];exact c2
   ·have e:ng (mn (rnd l 0) (rnd l (i+1)))=mn (rnd l (i+1)) (rnd l 0):=by
     unfold ng mn;exact Z5 (by dsimp only;grind) (by dsimp only;grind)
    rw [e];exact lo
  ·exact u
def sumW (l r:List V):List (Nat×Nat):=walk (rnd l) (rnd r) l.length r.length (l.length+r.length) (0,0)
def sumL (l r:List V):List V:=(sumW l r).map (at2 (rnd l) (rnd r))
theorem zpr {l r:List V} (hl:IsShp l) (nl:l.Nodup) (hr:IsShp r) (nr:r.Nodup):IsShp (sumL l r):=
 (zeh (B3 hl nl) (B3 hr nr) (Zj _)).shape (B3 hl nl) (B3 hr nr)
end Mg
namespace Mg
open DL
theorem zzv {l r:List V} (hl:0<l.length) (hr:0<r.length) {c:V} (h:c∈sumL l r):∃ u,u∈l/\∃ v,v∈r/\c=pl u v:=by
 obtain⟨s,_,e⟩:=Zv.mp h
 exact⟨_,G7 hl s.1,_,G7 hr s.2,e.symm⟩
theorem zhl {l:List V} {c:V} (h:c∈l):∃ k,rnd l k=c:=by
 obtain⟨k,hk⟩:=Wa h
 have hl:k<l.length:=by
  rcases Yg k l.length with h | h
  ·exact h
  ·rw [Yr h] at hk;cases hk
 refine⟨k,?_⟩
 have:=Gq (by omega:0<l.length) k
 rw [Zo hl,hk] at this;exact (Z3 this).symm
theorem zzw {l r:List V} (hl:IsShp l) (nl:l.Nodup) (hr:IsShp r) (nr:r.Nodup) {k:Nat} {a b:V} (ha:(sumL l r)[(k+(sumL l r).length-1)%(sumL l r).length]? = some a) (hb:(sumL l r)[k]? = some b) :
  ∃ u,u∈l/\∃ v,v∈r/\a=pl u v/\(∀ c∈l,0<=xr (mn b a) (mn c u))/\(∀ c∈r,0<=xr (mn b a) (mn c v)):=by
 have hP:=B3 hl nl;have hQ:=B3 hr nr;have l3:=hl.three;have r3:=hr.three;have T:=zeh hP hQ (Zj _);unfold sumL at ha hb;rw [Zc,Zi] at ha;rw [Zi] at hb;cases hx:(sumW l r)[k]? with
 | none=>rw [hx] at hb;cases hb
 | some x=>
  rw [hx] at hb;cases hb;obtain⟨y,p,q,C⟩:=T.cor hP hQ hx
  have pr:(sumW l r)[(k+(sumW l r).length-1)%(sumW l r).length]? = some p:=C.pre;rw [pr] at ha;cases ha;have E0:mn (at2 (rnd l) (rnd r) x) (at2 (rnd l) (rnd r) p)=gw (rnd l) (rnd r) p q:=by rw [<- C.same];rfl
  refine⟨_,G7 (by omega) p.1,_,G7 (by omega) p.2,rfl,fun c hc=>?_,fun c hc=>?_⟩
  ·obtain⟨i,e⟩:=zhl hc
   rw [E0,<- e];exact C.inn.lowP i
  ·obtain⟨i,e⟩:=zhl hc
   rw [E0,<- e];exact C.inn.lowQ i
theorem zlt {P Q:Nat->V} {n m:Nat}:∀ (k:Nat) (s:Nat×Nat),(walk P Q n m k s).length<=k
 | 0,_=>Zj _
 | k+1,s=>by
  unfold walk;by_cases c:s.1<n\/s.2<m
  ·rw [if_pos c,Zu];have:=zlt (P:=P) (Q:=Q) (n:=n) (m:=m) k (nxt P Q n m s);omega
  ·rw [if_neg c];exact Yi _
theorem zzx (l r:List V):(sumL l r).length<=l.length+r.length:=by unfold sumL;rw [Zc];exact zlt _ _
end Mg
namespace Mg
open DL
theorem oR_xr (a b c:V):oR a b c=xr (mn b a) (mn c b):=by unfold oR xr mn;grind
theorem zqc {l:List V} (h:IsShp l) (i:Nat) {c:V} (hc:c∈l) (n1:c≠rnd l i) (n2:c≠rnd l (i+1)):0<xr (mn (rnd l (i+1)) (rnd l i)) (mn c (rnd l (i+1))):=by
 have h0:0<l.length:=by have:=h.three;omega
 have ga:=Gq h0 i;have gb:=Gq h0 (i+1);rw [<- oR_xr];refine h.conv ((i+1)%l.length) _ _ c ?_ gb hc n1 n2;rw [<- ga];congr 1
 have e:((i+1)%l.length+l.length-1)%l.length=(i+1+l.length-1)%l.length:=by
  rw [Ky (by omega),Qw,<- Ky (by omega)]
 rw [e,show i+1+l.length-1=i+l.length by omega,Y7]
theorem zrr {l:List V} (h:IsShp l) {k:Nat} (hk:k+1<l.length):rnd l (k+1)≠rnd l 0:=fun e=>by
 have h0:0<l.length:=by omega
 have a:=Gq h0 0;have b:=Gq h0 (k+1);rw [U3] at a;rw [Zo hk] at b;have:=h.first k _ _ a b
 rw [e] at this;exact zla _ this
theorem zcw {l:List V} (i:Nat):rnd l (i+l.length)=rnd l i:=by unfold rnd;rw [Y7]
theorem other {l:List V} (h:IsShp l) (a:V):∃ c,c∈l/\c≠a:=by
 have h3:=h.three;by_cases e:rnd l 0=a
 ·exact⟨rnd l 1,G7 (by omega) 1,fun z=>zrr h (show 0+1<l.length by omega) (by rw [e];exact z)⟩
 ·exact⟨_,G7 (by omega) 0,e⟩
theorem ybl {l:List V} (h:IsShp l) (i:Nat):rnd l (i+1)≠rnd l i:=fun e=>by
 obtain⟨c,hc,ne⟩:=other h (rnd l i)
 have:=zqc h i hc ne (by rw [e];exact ne)
 rw [e] at this;unfold xr mn at this;grind
theorem nx_uq {l r:List V} (hl:IsShp l) (hr:IsShp r) (sub:∀ c∈l,c∈r) (sub':∀ c∈r,c∈l) {i j:Nat} (e:rnd l i=rnd r j):rnd l (i+1)=rnd r (j+1):=by
 refine Wc fun ne=>?_;have l0:0<l.length:=by have:=hl.three;omega
 have r0:0<r.length:=by have:=hr.three;omega
 have a:=zqc hl i (sub' _ (G7 r0 (j+1))) (by rw [e];exact ybl hr j) (Wh ne);have b:=zqc hr j (sub _ (G7 l0 (i+1))) (by rw [<- e];exact ybl hl i) ne;rw [e] at a;have z:xr (mn (rnd l (i+1)) (rnd r j)) (mn (rnd r (j+1)) (rnd l (i+1))) = - xr (mn (rnd r (j+1)) (rnd r j)) (mn (rnd l (i+1)) (rnd r (j+1))):=by unfold xr mn;grind
 grind
theorem zqr {l r:List V} (hl:IsShp l) (hr:IsShp r) (sub:∀ c∈l,c∈r) (sub':∀ c∈r,c∈l) {i j:Nat} (e:rnd l i=rnd r j):∀ t,rnd l (i+t)=rnd r (j+t)
 | 0=>e
 | t+1=>nx_uq hl hr sub sub' (zqr hl hr sub sub' e t)
theorem nodup {l:List V} (h:IsShp l):l.Nodup:=by
 refine Uh.mpr (Qn.mpr fun i j hi hj hij e=>?_);have h0:0<l.length:=by omega
 have gi:=Gq h0 i;have gj:=Gq h0 j;rw [Zo hi,Ze hi] at gi;rw [Zo hj,Ze hj] at gj;have e2:rnd l i=rnd l j:=by rw [<- Z3 gi,<- Z3 gj,e]
 have:=zqr h h (fun _ z=>z) (fun _ z=>z) e2 (l.length-j)
 rw [show j+(l.length-j)=0+l.length by omega,zcw] at this;obtain⟨k,hk⟩:∃ k,i+(l.length-j)=k+1:=⟨i+(l.length-j)-1,by omega⟩
 rw [hk] at this;exact zrr h (by omega) this
theorem zyu {l r:List V} (hl:IsShp l) (hr:IsShp r) (sub:∀ c∈l,c∈r) (sub':∀ c∈r,c∈l):l=r:=by
 have l0:0<l.length:=by have:=hl.three;omega
 have r0:0<r.length:=by have:=hr.three;omega
 have low:∀ {m:List V},IsShp m->∀ c∈m,c≠rnd m 0->ltR (rnd m 0) c:=fun {m} hm c hc ne=>by
  have m0:0<m.length:=by have:=hm.three;omega
  obtain⟨k,hk⟩:=Wa hc
  have a:=Gq m0 0;rw [U3] at a;cases k with
  | zero=>rw [hk] at a;exact absurd (Z3 a) ne
  | succ k=>exact hm.first k _ _ a hk
 have e0:rnd l 0=rnd r 0:=Wc fun ne=>by
  have a:=low hl _ (sub' _ (G7 r0 0)) (Wh ne);have b:=low hr _ (sub _ (G7 l0 0)) ne;exact zla _ (zjm a b)
 have all:=zqr hl hr sub sub' e0;have len:∀ {l r:List V},IsShp l->IsShp r->(∀ t,rnd l (0+t)=rnd r (0+t)) -> ¬ l.length<r.length:=fun {l r} hl hr all lt=>by
  have:=all l.length
  rw [zcw,show rnd l 0=rnd r 0 from all 0,Yv] at this;obtain⟨k,hk⟩:∃ k,l.length=k+1:=⟨l.length-1,by have:=hl.three;omega⟩
  rw [hk] at this lt;exact zrr hr lt this.symm
 have ll:l.length=r.length:=by
  have a:=len hl hr all;have b:=len hr hl fun t=>(all t).symm
  omega
 refine Vt fun i=>?_;rcases Yg i l.length with hi | hi
 ·have a:=Gq l0 i;have b:=Gq r0 i;rw [Zo hi] at a;rw [Zo (by omega)] at b;have:=all i
  rw [Yv] at this;rw [a,b,this]
 ·rw [Yr hi,Yr (by omega)]
def Lo (l:List V) (d u:V):Prop:=u∈l/\∀ c∈l,0<=xr d (mn c u)
theorem lo_of {l:List V} (d:V):∀ {m:List V},m≠[]->(∀ c∈m,c∈l)->∃ u,u∈l/\∀ c∈m,0<=xr d (mn c u)
 | [x],_,s=>⟨x,s x (.head _),fun c hc=>by rw [Zn.mp hc];unfold xr mn;grind⟩
 | x::y::m,_,s=>by
  obtain⟨u,hu,a⟩:=lo_of d (m:=y::m) (by simp) fun c hc=>s c (.tail _ hc)
  by_cases k:0<=xr d (mn x u)
  ·refine⟨u,hu,fun c hc=>?_⟩
   rcases Zf.mp hc with e | hc
   ·rw [e];exact k
   ·exact a c hc
  ·refine⟨x,s x (.head _),fun c hc=>?_⟩
   rcases Zf.mp hc with e | hc
   ·rw [e];unfold xr mn;grind
   ·have:=a c hc
    unfold xr mn at *;grind
theorem lo_ex {l:List V} (h:0<l.length) (d:V):∃ u,Lo l d u:=by
 obtain⟨u,a,b⟩:=lo_of (l:=l) d (m:=l) (fun e=>by rw [e] at h;exact absurd h (by decide)) fun _ z=>z
 exact⟨u,a,b⟩
theorem cone {e1 e2 d w:V} (h:0<xr e1 e2) (a:0<=xr d e2) (b:0<=xr e1 d) (c1:0<=xr e1 w) (c2:0<=xr e2 w):0<=xr d w:=by
 refine nn_of_mul h ?_;have e:xr d w*xr e1 e2=xr d e2*xr e1 w+xr e1 d*xr e2 w:=by unfold xr;grind
 rw [e];have:=Zh a c1
 have:=Zh b c2
 grind
theorem side {l:List V} (h:IsShp l) (i:Nat):∀ c∈l,0<=xr (mn (rnd l (i+1)) (rnd l i)) (mn c (rnd l (i+1))):=fun c hc=>by
 by_cases n1:c=rnd l i
 ·rw [n1];unfold xr mn;grind
 ·by_cases n2:c=rnd l (i+1)
  ·rw [n2];unfold xr mn;grind
  ·exact Zr (zqc h i hc n1 n2)
theorem side' {l:List V} (h:IsShp l) (i:Nat):∀ c∈l,0<=xr (mn (rnd l (i+1)) (rnd l i)) (mn c (rnd l i)):=fun c hc=>by
 have:=side h i c hc
 unfold xr mn at *;grind
theorem turnp {l:List V} (h:IsShp l) (i:Nat):0<xr (mn (rnd l (i+1)) (rnd l i)) (mn (rnd l (i+2)) (rnd l (i+1))):=by
 have h3:=h.three;have h0:0<l.length:=by omega
 refine zqc h i (G7 h0 (i+2)) (fun e=>?_) (ybl h (i+1));have:=zhg (nodup h) h0 e
 have m1:=Qc i h0;rw [Jh] at this;rcases Yg (i%l.length+2) l.length with k | k
 ·rw [Zo (show 2<l.length by omega),Zo k] at this;omega
 ·rw [Zo (show 2<l.length by omega),show i%l.length+2=(i%l.length+2-l.length)+l.length by omega,Y7,Zo (by omega)] at this;omega
end Mg
namespace Mg
open DL
theorem sumN {l r:List V} (hl:IsShp l) (hr:IsShp r):IsShp (sumL l r):=zpr hl (nodup hl) hr (nodup hr)
theorem yax {n i:Nat} (h:0<n):((i+1)%n+n-1)%n=i%n:=by
 rw [Ky (by omega),Qw,<- Ky (by omega),show i+1+n-1=i+n by omega,Y7]
theorem low2 {l r:List V} (hl:IsShp l) (hr:IsShp r) (i:Nat):∃ u v,u∈l/\v∈r/\rnd (sumL l r) i=pl u v/\(∀ c∈l,0<=xr (mn (rnd (sumL l r) (i+1)) (rnd (sumL l r) i)) (mn c u))/\∀ c∈r,0<=xr (mn (rnd (sumL l r) (i+1)) (rnd (sumL l r) i)) (mn c v):=by
 have h0:0<(sumL l r).length:=by have:=(sumN hl hr).three;omega
 have ga:=Gq h0 i;have gb:=Gq h0 (i+1);obtain⟨u,hu,v,hv,e,a,b⟩:=zzw hl (nodup hl) hr (nodup hr) (k:=(i+1)%(sumL l r).length) (by rw [yax h0];exact ga) gb
 exact⟨u,v,hu,hv,e,a,b⟩
theorem zes {l r:List V} (hl:IsShp l) (hr:IsShp r) (d:V):∃ u v,Lo l d u/\Lo r d v/\Lo (sumL l r) d (pl u v):=by
 have hF:=sumN hl hr;have h0:0<(sumL l r).length:=by have:=hF.three;omega
 obtain⟨b,hb,lo⟩:=lo_ex h0 d
 obtain⟨k,ek⟩:=zhl hb
 have e1:rnd (sumL l r) (k+(sumL l r).length-1+1)=b:=by rw [show k+(sumL l r).length-1+1=k+(sumL l r).length by omega,zcw,ek]
 generalize k+(sumL l r).length-1=i at e1;obtain⟨u',v',_,_,e',a1,b1⟩:=low2 hl hr i
 obtain⟨u,v,hu,hv,e,a2,b2⟩:=low2 hl hr (i+1)
 have tp:=turnp hF i;have c1:=lo _ (G7 h0 i);have c2:=lo _ (G7 h0 (i+2));rw [show i+1+1=i+2 from rfl] at a2 b2;rw [e1] at a1 b1 a2 b2 e tp;generalize rnd (sumL l r) i=p at *;generalize rnd (sumL l r) (i+2)=q at *;have z1:=a1 u hu;have z2:=b1 v hv;have z:xr (mn b p) (mn u u')+xr (mn b p) (mn v v')=0:=by
  have:xr (mn b p) (mn b p)=0:=zah _
  rw [e,e'] at this |-;unfold xr mn pl at *;grind
 have y1:xr (mn b p) (mn u u')=0:=by grind
 have y2:xr (mn b p) (mn v v')=0:=by grind
 have f1:∀ c∈l,0<=xr (mn b p) (mn c u):=fun c hc=>by
  have:=a1 c hc
  unfold xr mn at *;grind
 have f2:∀ c∈r,0<=xr (mn b p) (mn c v):=fun c hc=>by
  have:=b1 c hc
  unfold xr mn at *;grind
 have g:0<=xr (mn b p) d:=by
  have e3:xr (mn b p) d=xr d (mn p b):=by unfold xr mn;grind
  rw [e3];exact c1
 exact⟨u,v,⟨hu,fun c hc=>cone tp c2 g (f1 c hc) (a2 c hc)⟩,⟨hv,fun c hc=>cone tp c2 g (f2 c hc) (b2 c hc)⟩,by rw [<- e];exact⟨hb,lo⟩⟩
def Sm (l r:List V):Prop:=∀ d,∃ b g,Lo l d b/\Lo r d g/\xr d b=xr d g
theorem Sm.symm {l r:List V} (h:Sm l r):Sm r l:=fun d=>by
 obtain⟨b,g,x,y,z⟩:=h d
 exact⟨g,b,y,x,z.symm⟩
theorem zlb {l:List V} {d u v:V} (h:Lo l d u) (k:Lo l d v):xr d u=xr d v:=by
 have a:=h.2 v k.1;have b:=k.2 u h.1;unfold xr mn at *;grind
theorem Sm.le {l r:List V} (h:Sm l r) {d b:V} (lb:Lo l d b):∀ c∈r,0<=xr d (mn c b):=fun c hc=>by
 obtain⟨b',g,x,y,z⟩:=h d
 have e:=zlb lb x;have:=y.2 c hc
 unfold xr mn at *;grind
theorem Sm.at {l r:List V} (h:Sm l r) {d b:V} (lb:Lo l d b):∃ g,Lo r d g/\xr d g=xr d b:=by
 obtain⟨b',g,x,y,z⟩:=h d
 exact⟨g,y,by rw [<- z];exact (zlb lb x).symm⟩
theorem Sm.sub {l r:List V} (hl:IsShp l) (h:Sm l r):∀ c∈l,c∈r:=fun b hb=>by
 have h0:0<l.length:=by have:=hl.three;omega
 obtain⟨k,ek⟩:=zhl hb
 have e1:rnd l (k+l.length-1+1)=b:=by rw [show k+l.length-1+1=k+l.length by omega,zcw,ek]
 generalize k+l.length-1=i at e1;have tp:=turnp hl i;have s1:=side hl i;have s2:=side' hl (i+1);rw [show i+1+1=i+2 from rfl] at s2;rw [e1] at tp s1 s2;generalize rnd l i=p at *;generalize rnd l (i+2)=q at *;have m1:=h.le ⟨hb,s1⟩;have m2:=h.le ⟨hb,s2⟩;obtain⟨g,lg,eg⟩:=h.at (d:=pl (mn b p) (mn q b)) (b:=b) ⟨hb,fun c hc=>by
  rw [zfy];have:=s1 c hc
  have:=s2 c hc
  grind⟩
 have n1:=m1 g lg.1;have n2:=m2 g lg.1;rw [zfy,zfy] at eg;have k1:xr (mn b p) (mn g b)=0:=by unfold xr mn at *;grind
 have k2:xr (mn q b) (mn g b)=0:=by unfold xr mn at *;grind
 have e:g=b:=by
  have w1:(g.1-b.1)*xr (mn b p) (mn q b)=0:=by
   have:(g.1-b.1)*xr (mn b p) (mn q b)=(mn b p).1*xr (mn q b) (mn g b)*(-1)+(mn q b).1*xr (mn b p) (mn g b):=by unfold xr mn;grind
   rw [this,k1,k2];grind
  have w2:(g.2-b.2)*xr (mn b p) (mn q b)=0:=by
   have:(g.2-b.2)*xr (mn b p) (mn q b)=(mn b p).2*xr (mn q b) (mn g b)*(-1)+(mn q b).2*xr (mn b p) (mn g b):=by unfold xr mn;grind
   rw [this,k1,k2];grind
  have t0:xr (mn b p) (mn q b)≠0:=by grind
  have z1:=(Yt.mp w1).resolve_right t0;have z2:=(Yt.mp w2).resolve_right t0;exact Z5 (by grind) (by grind)
 rw [<- e];exact lg.1
theorem zpw {l r:List V} (hl:IsShp l) (hr:IsShp r) (h:Sm l r):l=r:=zyu hl hr (h.sub hl) (h.symm.sub hr)
theorem zhb {l r:List V} (hl:IsShp l) (hr:IsShp r):sumL l r=sumL r l:=zpw (sumN hl hr) (sumN hr hl) fun d=>by
 obtain⟨u,v,a,b,c⟩:=zes hl hr d
 obtain⟨v',u',b',a',c'⟩:=zes hr hl d
 refine⟨_,_,c,c',?_⟩
 rw [Bz,Bz,zlb a a',zlb b b'];grind
theorem zyh {l:List V} {f:V->V} {d e:V} (hf:∀ a b,0<=xr e (mn a b)->0<=xr d (mn (f a) (f b))) {u:V} (h:Lo l e u):Lo (l.map f) d (f u):=⟨Y4 h.1,fun c hc=>by
 obtain⟨p,hp,q⟩:=Zv.mp hc
 rw [<- q];exact hf p u (h.2 p hp)⟩
theorem zrh {l:List V} {d u:V} (p:V) (h:Lo l d u):Lo (l.map (pl p)) d (pl p u):=zyh (fun a b h=>by unfold xr mn pl at *;grind) h
def sc (x:Rat) (q:V):V:=(q.1*x,q.2*x)
theorem zrg {l:List V} {d u:V} {x:Rat} (hx:0<=x) (h:Lo l d u):Lo (l.map (sc x)) d (sc x u):=zyh (fun a b h=>by
 have e:xr d (mn (sc x a) (sc x b))=x*xr d (mn a b):=by unfold xr mn sc;grind
 rw [e];exact Zh hx h) h
theorem zuf {l r:List V} {p:V} (hl:IsShp l) (hr:IsShp r) (h1:IsShp (l.map (pl p))) (h2:IsShp ((sumL l r).map (pl p))):sumL (l.map (pl p)) r=(sumL l r).map (pl p):=zpw (sumN h1 hr) h2 fun d=>by
 obtain⟨x,v,a,b,c⟩:=zes h1 hr d
 obtain⟨u,v',a',b',c'⟩:=zes hl hr d
 refine⟨_,_,c,zrh p c',?_⟩
 rw [Bz,zlb a (zrh p a'),zlb b b',Bz,Bz,Bz];grind
theorem zbt (d q:V) (x:Rat):xr d (sc x q)=x*xr d q:=by unfold xr sc;grind
end Mg
namespace Mg
open DL
structure Wt where
 u:V
 x:Rat
 y:Rat
def sx:List Wt->V
 | []=>(0,0)
 | t::l=>pl (sc t.x t.u) (sx l)
def sy:List Wt->V
 | []=>(0,0)
 | t::l=>pl (sc t.y t.u) (sy l)
def tx:List Wt->Rat
 | []=>0
 | t::l=>t.x*xr t.u (sx l)+tx l
def ty:List Wt->Rat
 | []=>0
 | t::l=>t.y*xr t.u (sy l)+ty l
def tb:List Wt->Rat
 | []=>0
 | t::l=>t.x*xr t.u (sy l)+t.y*xr t.u (sx l)+tb l
def Gd (A B:List Wt):Prop:=4*((tx A+tx B)*(ty A+ty B))<=(tb A+tb B)*(tb A+tb B)
structure Rw (A:List Wt):Prop where
 x:∀ t∈A,0<=t.x
 y:∀ t∈A,0<=t.y
 o:A.Pairwise fun s t=>0<xr s.u t.u
theorem Rw.tail {t:Wt} {A:List Wt} (h:Rw (t::A)):Rw A:=⟨fun s hs=>h.x s (.tail _ hs),fun s hs=>h.y s (.tail _ hs),(Zt.mp h.o).2⟩
theorem xr_sx {v:V}:∀ {A:List Wt},(∀ t∈A,0<=t.x)->(∀ t∈A,0<=xr v t.u)->0<=xr v (sx A)
 | [],_,_=>by show 0<=xr v (0,0);rw [xr_0];exact Wp
 | t::A,h1,h2=>by
  show 0<=xr v (pl (sc t.x t.u) (sx A));rw [Bz,zbt];have a:=Zh (h1 t (.head _)) (h2 t (.head _));have b:=xr_sx (fun s hs=>h1 s (.tail _ hs)) (fun s hs=>h2 s (.tail _ hs)) (v:=v) (A:=A);grind
theorem xr_sy {v:V}:∀ {A:List Wt},(∀ t∈A,0<=t.y)->(∀ t∈A,0<=xr v t.u)->0<=xr v (sy A)
 | [],_,_=>by show 0<=xr v (0,0);rw [xr_0];exact Wp
 | t::A,h1,h2=>by
  show 0<=xr v (pl (sc t.y t.u) (sy A));rw [Bz,zbt];have a:=Zh (h1 t (.head _)) (h2 t (.head _));have b:=xr_sy (fun s hs=>h1 s (.tail _ hs)) (fun s hs=>h2 s (.tail _ hs)) (v:=v) (A:=A);grind
theorem Rw.pos:∀ {A:List Wt},Rw A->0<=tx A/\0<=ty A/\0<=tb A
 | [],_=>⟨Wp,Wp,Wp⟩
 | t::A,h=>by
  obtain⟨a,b,c⟩:=Rw.pos h.tail
  have o:=(Zt.mp h.o).1;have p1:=xr_sx (fun s hs=>h.x s (.tail _ hs)) fun s hs=>Zr (o s hs)
  have p2:=xr_sy (fun s hs=>h.y s (.tail _ hs)) fun s hs=>Zr (o s hs)
  have x0:=h.x t (.head _);have y0:=h.y t (.head _);have q1:=Zh x0 p1;have q2:=Zh y0 p2;have q3:=Zh x0 p2;have q4:=Zh y0 p1;refine⟨?_,?_,?_⟩
  ·show 0<=t.x*xr t.u (sx A)+tx A;grind
  ·show 0<=t.y*xr t.u (sy A)+ty A;grind
  ·show 0<=t.x*xr t.u (sy A)+t.y*xr t.u (sx A)+tb A;grind
theorem ziu (a:Rat):0<=a*a:=by
 by_cases h:0<=a
 ·exact Zh h h
 ·have:=Zh (show 0 <= -a by grind) (show 0 <= -a by grind)
  grind
theorem zzy {D1 D2 B c s t:Rat} (h:4*(D1*D2)<=B*B) (hc:0<=c) (p1:0<=D1-c*(s*s)) (p2:0<=D2-c*(t*t)):4*((D1-c*(s*s))*(D2-c*(t*t)))<=(B-2*c*(s*t))*(B-2*c*(s*t)):=by
 have cs:=Zh hc (ziu s);have d1:0<=D1:=by grind
 by_cases z:D1=0
 ·have e:D1-c*(s*s)=0:=by grind
  rw [e,Qq,Rat.mul_zero];exact ziu _
 ·have d:0<D1:=by grind
  have k:0<=((B-2*c*(s*t))*(B-2*c*(s*t))-4*((D1-c*(s*s))*(D2-c*(t*t))))*D1:=by
   have e:((B-2*c*(s*t))*(B-2*c*(s*t))-4*((D1-c*(s*s))*(D2-c*(t*t))))*D1=(B*B-4*(D1*D2))*(D1-c*(s*s))+c*((2*D1*t-B*s)*(2*D1*t-B*s)):=by grind
   rw [e];have a:=Zh (show 0<=B*B-4*(D1*D2) by grind) p1;have b:=Zh hc (ziu (2*D1*t-B*s));grind
  have:=nn_of_mul d k
  grind
end Mg
namespace Mg
open DL
theorem tx1 (t:Wt):tx [t]=0/\ty [t]=0/\tb [t]=0:=by
 refine⟨?_,?_,?_⟩
 ·show t.x*xr t.u (0,0)+0=0;rw [xr_0];grind
 ·show t.y*xr t.u (0,0)+0=0;rw [xr_0];grind
 ·show t.x*xr t.u (0,0)+t.y*xr t.u (0,0)+0=0;rw [xr_0];grind
theorem tx2 (s t:Wt):tx [s,t]=s.x*t.x*xr s.u t.u/\ty [s,t]=s.y*t.y*xr s.u t.u/\tb [s,t]=(s.x*t.y+s.y*t.x)*xr s.u t.u:=by
 obtain⟨a,b,c⟩:=tx1 t
 refine⟨?_,?_,?_⟩
 ·show s.x*xr s.u (pl (sc t.x t.u) (0,0))+tx [t]=_;rw [a,Bz,zbt,xr_0];grind
 ·show s.y*xr s.u (pl (sc t.y t.u) (0,0))+ty [t]=_;rw [b,Bz,zbt,xr_0];grind
 ·show s.x*xr s.u (pl (sc t.y t.u) (0,0))+s.y*xr s.u (pl (sc t.x t.u) (0,0))+tb [t]=_;rw [c,Bz,Bz,zbt,zbt,xr_0];grind
theorem zyk {A:List Wt} (h:A.length<=2):4*(tx A*ty A)<=tb A*tb A:=by
 match A,h with
 | [],_=>show 4*((0:Rat)*0)<=0*0;grind
 | [t],_=>
  obtain⟨a,b,c⟩:=tx1 t
  rw [a,b,c];grind
 | [s,t],_=>
  obtain⟨a,b,c⟩:=tx2 s t
  rw [a,b,c];have:=ziu ((s.x*t.y-s.y*t.x)*xr s.u t.u)
  grind
theorem zjh {A:List Wt} (h:A.length<=1):tx A=0/\ty A=0/\tb A=0:=by
 match A,h with
 | [],_=>exact⟨rfl,rfl,rfl⟩
 | [t],_=>exact tx1 t
theorem elim {t1 t2 t3:Wt} {L:List Wt} {a b:Rat} (e:t2.u=pl (sc a t1.u) (sc b t3.u)) :
  sx (⟨t1.u,t1.x+a*t2.x,t1.y+a*t2.y⟩::⟨t3.u,t3.x+b*t2.x,t3.y+b*t2.y⟩::L)=sx (t1::t2::t3::L) /\
  sy (⟨t1.u,t1.x+a*t2.x,t1.y+a*t2.y⟩::⟨t3.u,t3.x+b*t2.x,t3.y+b*t2.y⟩::L)=sy (t1::t2::t3::L) /\
  tx (⟨t1.u,t1.x+a*t2.x,t1.y+a*t2.y⟩::⟨t3.u,t3.x+b*t2.x,t3.y+b*t2.y⟩::L)=tx (t1::t2::t3::L)+a*b*xr t1.u t3.u*(t2.x*t2.x) /\
  ty (⟨t1.u,t1.x+a*t2.x,t1.y+a*t2.y⟩::⟨t3.u,t3.x+b*t2.x,t3.y+b*t2.y⟩::L)=ty (t1::t2::t3::L)+a*b*xr t1.u t3.u*(t2.y*t2.y) /\
  tb (⟨t1.u,t1.x+a*t2.x,t1.y+a*t2.y⟩::⟨t3.u,t3.x+b*t2.x,t3.y+b*t2.y⟩::L)=tb (t1::t2::t3::L)+2*(a*b*xr t1.u t3.u)*(t2.x*t2.y):=by
 obtain⟨⟨p,p'⟩,x1,y1⟩:=t1
 obtain⟨⟨q,q'⟩,x2,y2⟩:=t2
 obtain⟨⟨r,r'⟩,x3,y3⟩:=t3
 unfold pl sc at e;dsimp only at e;have e1:q=p*a+r*b:=congrArg Prod.fst e;have e2:q'=p'*a+r'*b:=congrArg Prod.snd e;subst e1;subst e2;simp only [sx,sy,tx,ty,tb];generalize sx L=X;generalize sy L=Y;generalize tx L=T1;generalize ty L=T2;generalize tb L=T3;obtain⟨X1,X2⟩:=X
 obtain⟨Y1,Y2⟩:=Y
 simp only [pl,sc,xr];refine⟨Z5 ?_ ?_,Z5 ?_ ?_,?_,?_,?_⟩
 all_goals (try dsimp only)
 all_goals grind
theorem zyg {u1 u2 u3:V} (h:0<xr u1 u3):u2=pl (sc (xr u2 u3/xr u1 u3) u1) (sc (xr u1 u2/xr u1 u3) u3):=by
 have h0:xr u1 u3≠0:=by grind
 have k:∀ z:Rat,z/xr u1 u3=z*(xr u1 u3)⁻¹:=fun z=>Yw ..
 have i:xr u1 u3*(xr u1 u3)⁻¹=1:=Wz _ h0;rw [k,k];generalize hi:(xr u1 u3)⁻¹=z at *;unfold xr at *;unfold pl sc;refine Z5 ?_ ?_
 all_goals dsimp only
 all_goals grind
end Mg
namespace Mg
open DL
theorem z_of {a b c:Rat} (ha:0<=a) (hb:0<=b) (hc:0<=c) (h:a+b+c=0):a=0/\b=0/\c=0:=⟨by grind,by grind,by grind⟩
theorem zbq {a b:Rat} (hb:0<b) (h:a*b=0):a=0:=(Yt.mp h).resolve_right (by grind)
theorem ych {s1 s2 t1 t2:Wt} (hA:Rw [s1,s2]) (hB:Rw [t1,t2]) (u1:up s1.u) (u2:up s2.u) (n1:up (ng t1.u)) (n2:up (ng t2.u)) (cx:pl (sx [s1,s2]) (sx [t1,t2])=(0,0)) (cy:pl (sy [s1,s2]) (sy [t1,t2])=(0,0)):Gd [s1,s2] [t1,t2]:=by
 have X0:0<xr s1.u s2.u:=(Zt.mp hA.o).1 s2 (.head _);have Y0:0<xr t1.u t2.u:=(Zt.mp hB.o).1 t2 (.head _);have p0:=hA.x s1 (.head _);have q0:=hA.x s2 (.tail _ (.head _));have r0:=hB.x t1 (.head _);have w0:=hB.x t2 (.tail _ (.head _));obtain⟨a1,a2,a3⟩:=tx2 s1 s2
 obtain⟨b1,b2,b3⟩:=tx2 t1 t2
 have lin:∀ v,s1.x*xr v s1.u+s2.x*xr v s2.u+(t1.x*xr v t1.u+t2.x*xr v t2.u)=0:=fun v=>by
  have h:xr v (pl (sx [s1,s2]) (sx [t1,t2]))=xr v (0,0):=by rw [cx]
  simp only [sx,Bz,zbt,xr_0] at h;grind
 have liny:∀ v,s1.y*xr v s1.u+s2.y*xr v s2.u+(t1.y*xr v t1.u+t2.y*xr v t2.u)=0:=fun v=>by
  have h:xr v (pl (sy [s1,s2]) (sy [t1,t2]))=xr v (0,0):=by rw [cy]
  simp only [sy,Bz,zbt,xr_0] at h;grind
 have tz:tx [s1,s2]+tx [t1,t2]=0->Gd [s1,s2] [t1,t2]:=fun z=>by
  unfold Gd;rw [z,Qq,Rat.mul_zero];exact ziu _
 by_cases c1:0<=xr s2.u t1.u
 ·by_cases c2:0<=xr t2.u s1.u
  ·have l1:=lin t2.u;have l2:=lin t1.u;have m1:=liny t2.u;have m2:=liny t1.u;rw [zah] at l1 l2 m1 m2;have e1:xr t2.u t1.u = - xr t1.u t2.u:=Ge _ _;have e2:xr t1.u s1.u = - xr s1.u t1.u:=Ge _ _;have e3:xr t1.u s2.u = - xr s2.u t1.u:=Ge _ _;have e4:xr t2.u s1.u = - xr s1.u t2.u:=Ge _ _;have e5:xr t2.u s2.u = - xr s2.u t2.u:=Ge _ _;have plk:xr s1.u s2.u*xr t1.u t2.u=xr s1.u t1.u*xr s2.u t2.u-xr s1.u t2.u*xr s2.u t1.u:=by unfold xr;grind
   unfold Gd;rw [a1,a2,a3,b1,b2,b3];rw [e1,e4,e5] at l1 m1;rw [e2,e3] at l2 m2;rw [e4] at c2;generalize xr s1.u s2.u=X at *;generalize xr t1.u t2.u=Y at *;generalize xr s1.u t1.u=m11 at *;generalize xr s1.u t2.u=m12 at *;generalize xr s2.u t1.u=m21 at *;generalize xr s2.u t2.u=m22 at *;generalize s1.x=p at *;generalize s2.x=q at *;generalize t1.x=r at *;generalize t2.x=s at *;generalize s1.y=p' at *;generalize s2.y=q' at *;generalize t1.y=r' at *;generalize t2.y=s' at *;have rY:r*Y = -(p*m12+q*m22):=by grind
   have sY:s*Y=p*m11+q*m21:=by grind
   have rY':r'*Y = -(p'*m12+q'*m22):=by grind
   have sY':s'*Y=p'*m11+q'*m21:=by grind
   have f1:Y*(p*q*X+r*s*Y) = -(m11*m12*(p*p)+2*(m12*m21)*(p*q)+m21*m22*(q*q)):=by
    have:Y*(p*q*X+r*s*Y)=p*q*(X*Y)+(r*Y)*(s*Y):=by grind
    rw [this,plk,rY,sY];grind
   have f2:Y*(p'*q'*X+r'*s'*Y) = -(m11*m12*(p'*p')+2*(m12*m21)*(p'*q')+m21*m22*(q'*q')):=by
    have:Y*(p'*q'*X+r'*s'*Y)=p'*q'*(X*Y)+(r'*Y)*(s'*Y):=by grind
    rw [this,plk,rY',sY'];grind
   have f3:Y*((p*q'+p'*q)*X+(r*s'+r'*s)*Y) = -(2*(m11*m12*(p*p')+m12*m21*(p*q'+p'*q)+m21*m22*(q*q'))):=by
    have:Y*((p*q'+p'*q)*X+(r*s'+r'*s)*Y)=(p*q'+p'*q)*(X*Y)+((r*Y)*(s'*Y)+(r'*Y)*(s*Y)):=by grind
    rw [this,plk,rY,sY,rY',sY'];grind
   generalize p*q*X+r*s*Y=T1 at *;generalize p'*q'*X+r'*s'*Y=T2 at *;generalize (p*q'+p'*q)*X+(r*s'+r'*s)*Y=T3 at *;have g:(T3*T3-4*(T1*T2))*(Y*Y)=4*((-m12)*m21)*(X*Y)*((p*q'-p'*q)*(p*q'-p'*q)):=by
    have:(T3*T3-4*(T1*T2))*(Y*Y)=(Y*T3)*(Y*T3)-4*((Y*T1)*(Y*T2)):=by grind
    rw [this,f1,f2,f3,plk];grind
   have pos:=Zh (Zh (Zh (show (0:Rat)<=4 by decide) (Zh c2 c1)) (Zr (Z2 X0 Y0))) (ziu (p*q'-p'*q));rw [<- g] at pos;have:=nn_of_mul (Z2 Y0 Y0) pos
   grind
  ·have l:=lin t2.u;rw [zah] at l;have k1:xr t2.u s1.u<0:=by grind
   have k2:xr t2.u s2.u<0:=by
    have:=tr_lt1 n2 u1 u2 (by rw [zcc];grind) (Zr X0)
    rw [zcc] at this;grind
   have k3:xr t2.u t1.u<0:=by rw [Ge];grind
   have z:=z_of (Zh p0 (show 0 <= - xr t2.u s1.u by grind)) (Zh q0 (show 0 <= - xr t2.u s2.u by grind)) (Zh r0 (show 0 <= - xr t2.u t1.u by grind)) (by grind);have z1:=zbq (show 0 < - xr t2.u s1.u by grind) z.1;have z3:=zbq (show 0 < - xr t2.u t1.u by grind) z.2.2;refine tz ?_;rw [a1,b1,z1,z3];grind
 ·have l:=lin t1.u;rw [zah] at l;have k1:0<xr t1.u s2.u:=by rw [Ge];grind
  have k2:0<xr t1.u s1.u:=by
   have:=tr_lt1 u1 u2 n1 X0 (by rw [zdf];grind)
   rw [zdf,<- Ge] at this;exact this
  have z:=z_of (Zh p0 (Zr k2)) (Zh q0 (Zr k1)) (Zh w0 (Zr Y0)) (by grind);have z1:=zbq k2 z.1;have z3:=zbq Y0 z.2.2;refine tz ?_;rw [a1,b1,z1,z3];grind
theorem Gd.comm {A B:List Wt} (h:Gd A B):Gd B A:=by
 unfold Gd at *;rw [Yo (tx B),Yo (ty B),Yo (tb B)];exact h
theorem Gd.less {A B A':List Wt} {c s t:Rat} (h:Gd A' B) (hc:0<=c) (e1:tx A'=tx A+c*(s*s)) (e2:ty A'=ty A+c*(t*t)) (e3:tb A'=tb A+2*c*(s*t)) (pA:Rw A) (pB:Rw B):Gd A B:=by
 obtain⟨a1,a2,_⟩:=pA.pos
 obtain⟨b1,b2,_⟩:=pB.pos
 unfold Gd at *;have:=zzy h hc (s:=s) (t:=t) (by rw [e1];grind) (by rw [e2];grind)
 rw [e1,e2,e3] at this;have f1:tx A+c*(s*s)+tx B-c*(s*s)=tx A+tx B:=by grind
 have f2:ty A+c*(t*t)+ty B-c*(t*t)=ty A+ty B:=by grind
 have f3:tb A+2*c*(s*t)+tb B-2*c*(s*t)=tb A+tb B:=by grind
 rw [f1,f2,f3] at this;exact this
theorem fewer {t1 t2 t3:Wt} {L:List Wt} (h:Rw (t1::t2::t3::L)):∃ s1 s3:Wt,s1.u=t1.u/\s3.u=t3.u/\Rw (s1::s3::L)/\sx (s1::s3::L)=sx (t1::t2::t3::L)/\sy (s1::s3::L)=sy (t1::t2::t3::L)/\∀ B,Rw B->Gd (s1::s3::L) B->Gd (t1::t2::t3::L) B:=by
 obtain⟨o1,o2⟩:=Zt.mp h.o
 obtain⟨o3,o4⟩:=Zt.mp o2
 obtain⟨o5,o6⟩:=Zt.mp o4
 have k13:=o1 t3 (.tail _ (.head _));have k12:=o1 t2 (.head _);have k23:=o3 t3 (.head _);obtain⟨e1,e2,e3,e4,e5⟩:=elim (L:=L) (zyg (u2:=t2.u) k13)
 have dv:∀ {z:Rat},0<z->0<=z/xr t1.u t3.u:=fun {z} hz=>by
  rw [Yw];exact Zh (Zr hz) (Zr (Q5.mpr k13))
 have pa:=dv k23;have pb:=dv k12;generalize xr t2.u t3.u/xr t1.u t3.u=a at *;generalize xr t1.u t2.u/xr t1.u t3.u=b at *;have x1:=h.x t1 (.head _);have x2:=h.x t2 (.tail _ (.head _));have x3:=h.x t3 (.tail _ (.tail _ (.head _)));have y1:=h.y t1 (.head _);have y2:=h.y t2 (.tail _ (.head _));have y3:=h.y t3 (.tail _ (.tail _ (.head _)));refine⟨⟨t1.u,t1.x+a*t2.x,t1.y+a*t2.y⟩,⟨t3.u,t3.x+b*t2.x,t3.y+b*t2.y⟩,rfl,rfl,⟨fun t ht=>?_,fun t ht=>?_,?_⟩,e1,e2,fun B hB g=>?_⟩
 ·rcases Zf.mp ht with e | ht
  ·rw [e];have:=Zh pa x2;show 0<=t1.x+a*t2.x;grind
  ·rcases Zf.mp ht with e | ht
   ·rw [e];have:=Zh pb x2;show 0<=t3.x+b*t2.x;grind
   ·exact h.x t (.tail _ (.tail _ (.tail _ ht)))
 ·rcases Zf.mp ht with e | ht
  ·rw [e];have:=Zh pa y2;show 0<=t1.y+a*t2.y;grind
  ·rcases Zf.mp ht with e | ht
   ·rw [e];have:=Zh pb y2;show 0<=t3.y+b*t2.y;grind
   ·exact h.y t (.tail _ (.tail _ (.tail _ ht)))
 ·refine Zt.mpr ⟨fun t ht=>?_,Zt.mpr ⟨fun t ht=>o5 t ht,o6⟩⟩;rcases Zf.mp ht with e | ht
  ·rw [e];exact k13
  ·exact o1 t (.tail _ (.tail _ ht))
 ·exact g.less (Zh (Zh pa pb) (Zr k13)) e3 e4 e5 h hB
theorem two_of {A:List Wt} (h:A.length<=2) (k:¬ A.length<=1):∃ s t,A=[s,t]:=by
 cases A with
 | nil=>exact absurd (Yi _) k
 | cons s A=>
  cases A with
  | nil=>exact absurd (Zj _) k
  | cons t A=>
   cases A with
   | nil=>exact⟨s,t,rfl⟩
   | cons u A=>exact absurd (Q1 (Q1 h)) (Nat.not_succ_le_zero _)
theorem zdt {A:List Wt} (h:¬ A.length<=2):∃ t1 t2 t3 L,A=t1::t2::t3::L:=by
 cases A with
 | nil=>exact absurd (Yi _) h
 | cons s A=>
  cases A with
  | nil=>exact absurd (Ko _) h
  | cons t A=>
   cases A with
   | nil=>exact absurd (Zj _) h
   | cons u A=>exact⟨s,t,u,A,rfl⟩
theorem zlw {q:V->Prop} {t1 t2 t3 s1 s3:Wt} {L:List Wt} (h:∀ t∈t1::t2::t3::L,q t.u) (e1:s1.u=t1.u) (e3:s3.u=t3.u):∀ t∈s1::s3::L,q t.u:=fun t ht=>by
 rcases Zf.mp ht with e | ht
 ·rw [e,e1];exact h _ (.head _)
 ·rcases Zf.mp ht with e | ht
  ·rw [e,e3];exact h _ (.tail _ (.tail _ (.head _)))
  ·exact h _ (.tail _ (.tail _ (.tail _ ht)))
theorem zyl {A B:List Wt} (a3:A.length<=2) (b3:B.length<=2) (hA:Rw A) (hB:Rw B) (uA:∀ t∈A,up t.u) (uB:∀ t∈B,up (ng t.u)) (cx:pl (sx A) (sx B)=(0,0)) (cy:pl (sy A) (sy B)=(0,0)):Gd A B:=by
 by_cases a1:A.length<=1
 ·obtain⟨z1,z2,z3⟩:=zjh a1
  have:=zyk b3
  unfold Gd;rw [z1,z2,z3,Qf,Qf,Qf];exact this
 ·by_cases b1:B.length<=1
  ·obtain⟨z1,z2,z3⟩:=zjh b1
   have:=zyk a3
   unfold Gd;rw [z1,z2,z3,Q8,Q8,Q8];exact this
  ·obtain⟨s1,s2,e⟩:=two_of a3 a1
   obtain⟨t1,t2,e'⟩:=two_of b3 b1
   subst e;subst e';exact ych hA hB (uA _ (.head _)) (uA _ (.tail _ (.head _))) (uB _ (.head _)) (uB _ (.tail _ (.head _))) cx cy
theorem mink:∀ (n:Nat) (A B:List Wt),A.length+B.length<=n->Rw A->Rw B->(∀ t∈A,up t.u)->(∀ t∈B,up (ng t.u))->pl (sx A) (sx B)=(0,0)->pl (sy A) (sy B)=(0,0)->Gd A B
 | 0,A,B,hn,hA,hB,uA,uB,cx,cy=>zyl (Ya (Ya (Kf _ _) hn) (Yi _)) (Ya (Ya (Nat.le_add_left _ _) hn) (Yi _)) hA hB uA uB cx cy
 | n+1,A,B,hn,hA,hB,uA,uB,cx,cy=>by
  by_cases a3:A.length<=2
  ·by_cases b3:B.length<=2
   ·exact zyl a3 b3 hA hB uA uB cx cy
   ·obtain⟨t1,t2,t3,L,e⟩:=zdt b3
    subst e;obtain⟨s1,s3,e1,e3,hR,f1,f2,f3⟩:=fewer hB
    exact (f3 A hA (mink n A (s1::s3::L) (Q1 hn) hA hR uA (zlw (q:=fun u=>up (ng u)) uB e1 e3) (by rw [f1];exact cx) (by rw [f2];exact cy)).comm).comm
  ·obtain⟨t1,t2,t3,L,e⟩:=zdt a3
   subst e;obtain⟨s1,s3,e1,e3,hR,f1,f2,f3⟩:=fewer hA
   exact f3 B hB (mink n (s1::s3::L) B (by simp only [Zu] at hn |-;omega) hR hB (zlw (q:=up) uA e1 e3) uB (by rw [f1];exact cx) (by rw [f2];exact cy))
end Mg
namespace Mg
open DL
variable {P Q:Nat->V} {n m:Nat}
def arF (P:Nat->V) (n:Nat):Nat->Rat
 | 0=>0
 | c+1=>xr (ed P (n-(c+1))) (mn (P n) (P (n-c)))+arF P n c
theorem zke {i:Nat} (h:i<n):arF P n (n-i)=xr (ed P i) (mn (P n) (P (i+1)))+arF P n (n-(i+1)):=by
 obtain⟨c,hc⟩:∃ c,n-i=c+1:=⟨n-i-1,by omega⟩
 rw [hc];show xr (ed P (n-(c+1))) (mn (P n) (P (n-c)))+arF P n c=_;rw [show n-(c+1)=i by omega,show n-c=i+1 by omega,show n-(i+1)=c by omega]
def G8 (e:V):List V->Rat
 | []=>0
 | [_]=>0
 | p::q::r=>xr (mn q p) (mn e q)+G8 e (q::r)
theorem par_of {u v:V} (h:al u v):∃ k:Rat,0<=k/\v=sc k u:=by
 have key:∀ {u v:V},up u->up v->xr u v=0->∃ k:Rat,0<=k/\v=sc k u:=fun {u v} hu hv hx=>by
  have v1:=up_1 hv;rcases hu with a | ⟨a,b⟩
  ·refine⟨v.1/u.1,?_,?_⟩
   ·rw [Yw];exact Zh v1 (Zr (Q5.mpr a))
   ·have i:u.1*u.1⁻¹=1:=Wz _ (by grind);rw [Yw];generalize u.1⁻¹=z at *;unfold xr at hx;unfold sc;exact Z5 (by dsimp only;grind) (by dsimp only;grind)
  ·have z:v.1=0:=by
    have:v.1*u.2=0:=by unfold xr at hx;grind
    exact (Yt.mp this).resolve_right (by grind)
   have v2:0<v.2:=by rcases hv with h | h <;> grind
   refine⟨v.2/u.2,?_,?_⟩
   ·rw [Yw];exact Zh (Zr v2) (Zr (Q5.mpr b))
   ·have i:u.2*u.2⁻¹=1:=Wz _ (by grind);rw [Yw];generalize u.2⁻¹=z at *;unfold sc;exact Z5 (by dsimp only;grind) (by dsimp only;grind)
 obtain⟨h1,h2⟩:=h
 rcases h1 with⟨a,b⟩ | ⟨a,b⟩
 ·exact key a b h2
 ·obtain⟨k,k0,e⟩:=key a b (by rw [zov];exact h2)
  refine⟨k,k0,?_⟩
  have e1 : -v.1 = -u.1*k:=congrArg Prod.fst e;have e2 : -v.2 = -u.2*k:=congrArg Prod.snd e;unfold sc;exact Z5 (by dsimp only;grind) (by dsimp only;grind)
theorem Poly.srt (h:Poly P n) {i:Nat}:∀ {k:Nat},i<k->k<n->bf (ed P i) (ed P k)
 | 0,a,_=>by omega
 | k+1,a,b=>by
  rcases Yg i k with c | c
  ·exact zed (h.srt c (by omega)) (h.next b)
  ·have:i=k:=by omega
   subst this;exact h.next b
structure Ws (P Q:Nat->V) (n m:Nat) (s:Nat×Nat) (l:List (Nat×Nat)) (M:List Wt):Prop where
 sx:sx M=mn (P n) (P s.1)
 sy:sy M=mn (Q m) (Q s.2)
 tx:tx M=arF P n (n-s.1)
 ty:ty M=arF Q m (m-s.2)
 tt:Mg.tx M+Mg.ty M+Mg.tb M=G8 (at2 P Q (n,m)) (l.map (at2 P Q))
 x:∀ t∈M,0<=t.x
 y:∀ t∈M,0<=t.y
 o:M.Pairwise fun a b=>bf a.u b.u
 p:∀ t∈M,∀ i,i<s.1->bf (ed P i) t.u
 q:∀ t∈M,∀ j,j<s.2->bf (ed Q j) t.u
 h:∀ t∈M,up t.u\/up (ng t.u)
theorem Ws.step {s t:Nat×Nat} {l:List (Nat×Nat)} {M:List Wt} (W:Ws P Q n m t l M) (T:Tr P Q n m t l) {u:V} {x y:Rat} (hx:0<=x) (hy:0<=y) (hu:up u\/up (ng u)) (e1:mn (P t.1) (P s.1)=sc x u) (e2:mn (Q t.2) (Q s.2)=sc y u)
  (a1:arF P n (n-s.1)=x*xr u (mn (P n) (P t.1))+arF P n (n-t.1)) (a2:arF Q m (m-s.2)=y*xr u (mn (Q m) (Q t.2))+arF Q m (m-t.2)) (l1:s.1<=t.1) (l2:s.2<=t.2) (hd:∀ z∈M,bf u z.u) (p:∀ i,i<s.1->bf (ed P i) u) (q:∀ j,j<s.2->bf (ed Q j) u):Ws P Q n m s (s::l) (⟨u,x,y⟩::M) where
 sx:=by
  show pl (sc x u) (Mg.sx M)=_;rw [W.sx,<- e1];unfold pl mn;exact Z5 (by dsimp only;grind) (by dsimp only;grind)
 sy:=by
  show pl (sc y u) (Mg.sy M)=_;rw [W.sy,<- e2];unfold pl mn;exact Z5 (by dsimp only;grind) (by dsimp only;grind)
 tx:=by show x*xr u (Mg.sx M)+Mg.tx M=_;rw [W.sx,W.tx,a1]
 ty:=by show y*xr u (Mg.sy M)+Mg.ty M=_;rw [W.sy,W.ty,a2]
 tt:=by
  have key:G8 (at2 P Q (n,m)) ((s::l).map (at2 P Q))=xr (mn (at2 P Q t) (at2 P Q s)) (mn (at2 P Q (n,m)) (at2 P Q t))+G8 (at2 P Q (n,m)) (l.map (at2 P Q)):=by
   cases T with
   | nil=>show (0:Rat)=xr _ (mn _ _)+0;rw [zak,xr_0];grind
   | cons _ _ _ _ _=>rfl
  rw [key,<- W.tt];have g:mn (at2 P Q t) (at2 P Q s)=pl (sc x u) (sc y u):=by
   rw [<- e1,<- e2];unfold mn at2 pl;exact Z5 (by dsimp only;grind) (by dsimp only;grind)
  have f:mn (at2 P Q (n,m)) (at2 P Q t)=pl (Mg.sx M) (Mg.sy M):=by
   rw [W.sx,W.sy];unfold mn at2 pl;exact Z5 (by dsimp only;grind) (by dsimp only;grind)
  rw [g,f];show x*xr u (Mg.sx M)+Mg.tx M+(y*xr u (Mg.sy M)+Mg.ty M)+(x*xr u (Mg.sy M)+y*xr u (Mg.sx M)+Mg.tb M)=_;unfold xr pl sc;grind
 x:=fun z hz=>by
  rcases Zf.mp hz with e | hz
  ·rw [e];exact hx
  ·exact W.x z hz
 y:=fun z hz=>by
  rcases Zf.mp hz with e | hz
  ·rw [e];exact hy
  ·exact W.y z hz
 o:=Zt.mpr ⟨hd,W.o⟩
 p:=fun z hz i hi=>by
  rcases Zf.mp hz with e | hz
  ·rw [e];exact p i hi
  ·exact W.p z hz i (by omega)
 q:=fun z hz i hi=>by
  rcases Zf.mp hz with e | hz
  ·rw [e];exact q i hi
  ·exact W.q z hz i (by omega)
 h:=fun z hz=>by
  rcases Zf.mp hz with e | hz
  ·rw [e];exact hu
  ·exact W.h z hz
theorem sc_1 (u:V):u=sc 1 u:=by unfold sc;exact Z5 (by dsimp only;grind) (by dsimp only;grind)
theorem sc_0 (a u:V):mn a a=sc 0 u:=by unfold sc mn;exact Z5 (by dsimp only;grind) (by dsimp only;grind)
end Mg
namespace Mg
open DL
theorem ydy:∀ (A B:List Wt),sx (A++B)=pl (sx A) (sx B)/\sy (A++B)=pl (sy A) (sy B)
 | [],B=>⟨(yba _).symm,(yba _).symm⟩
 | t::A,B=>by
  obtain⟨a,b⟩:=ydy A B
  refine⟨?_,?_⟩
  ·show pl (sc t.x t.u) (sx (A++B))=pl (pl (sc t.x t.u) (sx A)) (sx B);rw [a];unfold pl;exact Z5 (by dsimp only;grind) (by dsimp only;grind)
  ·show pl (sc t.y t.u) (sy (A++B))=pl (pl (sc t.y t.u) (sy A)) (sy B);rw [b];unfold pl;exact Z5 (by dsimp only;grind) (by dsimp only;grind)
theorem zls (x:Rat) (u v:V):xr (sc x u) v=x*xr u v:=by unfold xr sc;grind
theorem app_t:∀ (A B:List Wt),tx (A++B)=tx A+tx B+xr (sx A) (sx B)/\ty (A++B)=ty A+ty B+xr (sy A) (sy B)/\tb (A++B)=tb A+tb B+(xr (sx A) (sy B)+xr (sy A) (sx B))
 | [],B=>by
  have z:∀ v,xr (0,0) v=0:=fun v=>by unfold xr;grind
  refine⟨?_,?_,?_⟩
  ·show tx B=0+tx B+xr (0,0) (sx B);rw [z];grind
  ·show ty B=0+ty B+xr (0,0) (sy B);rw [z];grind
  ·show tb B=0+tb B+(xr (0,0) (sy B)+xr (0,0) (sx B));rw [z,z];grind
 | t::A,B=>by
  obtain⟨a,b⟩:=ydy A B
  obtain⟨c,d,e⟩:=app_t A B
  refine⟨?_,?_,?_⟩
  ·show t.x*xr t.u (sx (A++B))+tx (A++B)=t.x*xr t.u (sx A)+tx A+tx B+xr (pl (sc t.x t.u) (sx A)) (sx B);rw [a,c,Bz,zfy,zls];grind
  ·show t.y*xr t.u (sy (A++B))+ty (A++B)=t.y*xr t.u (sy A)+ty A+ty B+xr (pl (sc t.y t.u) (sy A)) (sy B);rw [b,d,Bz,zfy,zls];grind
  ·show t.x*xr t.u (sy (A++B))+t.y*xr t.u (sx (A++B))+tb (A++B)=t.x*xr t.u (sy A)+t.y*xr t.u (sx A)+tb A+tb B+(xr (pl (sc t.x t.u) (sx A)) (sy B)+xr (pl (sc t.y t.u) (sy A)) (sx B));rw [a,b,e,Bz,Bz,zfy,zfy,zls,zls];grind
theorem zyj:∀ {M:List Wt},(M.Pairwise fun a b=>bf a.u b.u)->(∀ t∈M,up t.u\/up (ng t.u))->∃ A B,M=A++B/\(∀ t∈A,up t.u)/\∀ t∈B,up (ng t.u)
 | [],_,_=>⟨[],[],rfl,fun t h=>(by cases h),fun t h=>by cases h⟩
 | t::M,o,h=>by
  obtain⟨o1,o2⟩:=Zt.mp o
  obtain⟨A,B,e,a,b⟩:=zyj o2 fun z hz=>h z (.tail _ hz)
  rcases h t (.head _) with k | k
  ·refine⟨t::A,B,by rw [e];rfl,fun z hz=>?_,b⟩
   rcases Zf.mp hz with q | hz
   ·rw [q];exact k
   ·exact a z hz
  ·have dn:∀ z∈M,up (ng z.u):=fun z hz=>by
    rcases o1 z hz with⟨x,_⟩ | ⟨x,_,_⟩ | ⟨_,x,_⟩
    ·exact (Gg x k).elim
    ·exact (Gg x k).elim
    ·exact x
   refine⟨[],t::M,rfl,fun z hz=>(by cases hz),fun z hz=>?_⟩
   rcases Zf.mp hz with q | hz
   ·rw [q];exact k
   ·exact dn z hz
theorem zsz {l:List V} {i:Nat} (h:i<l.length):at0 l i=rnd l i:=by unfold rnd;rw [Zo h]
theorem zmm {l:List V}:∀ k,k+1<l.length->fanN l k+G8 (at0 l 0) (l.drop (k+1))=G8 (at0 l 0) l
 | 0,h=>by
  match l,h with
  | p::q::r,_=>
   show (0:Rat)+G8 p (q::r)=xr (mn q p) (mn p q)+G8 p (q::r);unfold xr mn;grind
 | k+1,h=>by
  rw [<- zmm k (by omega)];show fanN l k+oR (at0 l 0) (at0 l (k+1)) (at0 l (k+2))+_=_;have d1:l.drop (k+1)=at0 l (k+1)::at0 l (k+2)::l.drop (k+3):=by
   rw [Z1 (show k+1<l.length by omega),Z1 (show k+1+1<l.length by omega)];unfold at0;rw [Zk,Zk,Ze (show k+1<l.length by omega),Ze (show k+2<l.length by omega)];rfl
  have d2:l.drop (k+1+1)=at0 l (k+2)::l.drop (k+3):=by
   rw [Z1 (show k+1+1<l.length by omega)];unfold at0;rw [Zk,Ze (show k+2<l.length by omega)];rfl
  rw [d1,d2];show _=fanN l k+(xr (mn (at0 l (k+2)) (at0 l (k+1))) (mn (at0 l 0) (at0 l (k+2)))+G8 (at0 l 0) (at0 l (k+2)::l.drop (k+3)));have e:oR (at0 l 0) (at0 l (k+1)) (at0 l (k+2))=xr (mn (at0 l (k+2)) (at0 l (k+1))) (mn (at0 l 0) (at0 l (k+2))):=by unfold oR xr mn;grind
  rw [e];grind
theorem last1 {l:List V} (h:0<l.length):∃ x,l.drop (l.length-1)=[x]:=List.length_eq_one_iff.mp (by rw [Yc];omega)
theorem zbw {l:List V} (h:2<=l.length):sX l l.length=G8 (at0 l 0) l:=by
 rw [shoe h,<- zmm (l.length-2) (by omega)];obtain⟨x,e⟩:=last1 (show 0<l.length by omega)
 rw [show l.length-2+1=l.length-1 by omega,e];show _=_+(0:Rat);grind
theorem zte {l:List V}:∀ c,c<l.length->arF (rnd l) l.length (c+1)=G8 (at0 l 0) (l.drop (l.length-(c+1)))
 | 0,h=>by
  obtain⟨x,e⟩:=last1 (show 0<l.length by omega)
  rw [show l.length-(0+1)=l.length-1 by omega,e];show xr _ (mn (rnd l l.length) (rnd l (l.length-0)))+0=0;rw [K7,zak,xr_0];grind
 | c+1,h=>by
  show xr (ed (rnd l) (l.length-(c+1+1))) (mn (rnd l l.length) (rnd l (l.length-(c+1))))+arF (rnd l) l.length (c+1)=_;rw [zte c (by omega)];obtain⟨i,hi⟩:∃ i,l.length-(c+1+1)=i:=⟨_,rfl⟩
  have e2:l.length-(c+1)=i+1:=by omega
  rw [hi,e2];have il:i+1<l.length:=by omega
  have d1:l.drop i=at0 l i::at0 l (i+1)::l.drop (i+2):=by
   rw [Z1 (show i<l.length by omega),Z1 il];unfold at0;rw [Zk,Zk,Ze (show i<l.length by omega),Ze il];rfl
  have d2:l.drop (i+1)=at0 l (i+1)::l.drop (i+2):=by
   rw [Z1 il];unfold at0;rw [Zk,Ze il];rfl
  rw [d1,d2];show xr (mn (rnd l (i+1)) (rnd l i)) (mn (rnd l l.length) (rnd l (i+1)))+_=xr (mn (at0 l (i+1)) (at0 l i)) (mn (at0 l 0) (at0 l (i+1)))+G8 (at0 l 0) (at0 l (i+1)::l.drop (i+2));rw [zsz il,zsz (show i<l.length by omega),zsz (show 0<l.length by omega)];have:rnd l l.length=rnd l 0:=by have:=zcw (l:=l) 0;rw [Yv] at this;exact this
  rw [this]
theorem ar_sX {l:List V} (h:2<=l.length):arF (rnd l) l.length l.length=sX l l.length:=by
 have:=zte (l:=l) (l.length-1) (by omega)
 rw [show l.length-1+1=l.length by omega,K8,Jc] at this;rw [this,zbw h]
abbrev Ar (l:List V):Rat:=sX l l.length
end Mg
namespace Mg
open DL
theorem zjf {e:V} {x:Rat}:∀ l:List V,G8 (sc x e) (l.map (sc x))=x*x*G8 e l
 | []=>by show (0:Rat)=x*x*0;grind
 | [_]=>by show (0:Rat)=x*x*0;grind
 | p::q::r=>by
  show xr (mn (sc x q) (sc x p)) (mn (sc x e) (sc x q))+G8 (sc x e) ((q::r).map (sc x))=x*x*(xr (mn q p) (mn e q)+G8 e (q::r));rw [zjf (q::r)];unfold xr mn sc;grind
theorem zjg {e p0:V}:∀ l:List V,G8 (pl p0 e) (l.map (pl p0))=G8 e l
 | []=>rfl
 | [_]=>rfl
 | p::q::r=>by
  show xr (mn (pl p0 q) (pl p0 p)) (mn (pl p0 e) (pl p0 q))+G8 (pl p0 e) ((q::r).map (pl p0))=xr (mn q p) (mn e q)+G8 e (q::r);rw [zjg (q::r)];unfold xr mn pl;grind
theorem zln {f:V->V} {l:List V} (h:0<l.length):at0 (l.map f) 0=f (at0 l 0):=by
 unfold at0;rw [Zk,Zi,Zk,Ze h];rfl
theorem zlo {l:List V} (h:2<=l.length) (x:Rat):Ar (l.map (sc x))=x*x*Ar l:=by
 show sX (l.map (sc x)) (l.map (sc x)).length=x*x*sX l l.length;rw [zbw (by rw [Zc];exact h),zbw h,zln (by omega),zjf]
theorem ztd {l:List V} (h:2<=l.length) (p:V):Ar (l.map (pl p))=Ar l:=by
 show sX (l.map (pl p)) (l.map (pl p)).length=sX l l.length;rw [zbw (by rw [Zc];exact h),zbw h,zln (by omega),zjg]
theorem zps {l:List V} {x:Rat} (hx:0<=x) (hl:IsShp l) (h1:IsShp (l.map (sc x))) (h2:IsShp (l.map (sc (1+x)))):sumL l (l.map (sc x))=l.map (sc (1+x)):=zpw (sumN hl h1) h2 fun d=>by
 obtain⟨u,v,a,b,c⟩:=zes hl h1 d
 refine⟨_,_,c,zrg (by grind) a,?_⟩
 rw [Bz,zbt,zlb b (zrg hx a),zbt];grind
theorem IsShp.sized {l:List V} {x:Rat} (hl:IsShp l) (hx:0<x):IsShp (l.map (sc x)):=by
 refine⟨by rw [Zc];exact hl.three,fun k a b ha hb=>?_,fun k a b c ha hb hc na nb=>?_⟩
 ·rw [Zi] at ha hb;obtain⟨p,hp,e⟩:=Zb.mp ha
  obtain⟨q,hq,e2⟩:=Zb.mp hb
  have:=hl.first k p q hp hq
  rw [<- e,<- e2];rcases this with h | ⟨h1,h2⟩
  ·refine .inl ?_;show p.1*x<q.1*x;have:=Z2 (show 0<q.1-p.1 by grind) hx
   grind
  ·refine .inr ⟨by show p.1*x=q.1*x;rw [h1],?_⟩;show p.2*x<q.2*x;have:=Z2 (show 0<q.2-p.2 by grind) hx
   grind
 ·rw [Zc,Zi] at ha;rw [Zi] at hb;obtain⟨p,hp,e⟩:=Zb.mp ha
  obtain⟨q,hq,e2⟩:=Zb.mp hb
  obtain⟨z,hz,e3⟩:=Zv.mp hc
  have:=hl.conv k p q z hp hq hz (fun w=>na (by rw [<- e3,w,e])) fun w=>nb (by rw [<- e3,w,e2])
  rw [<- e,<- e2,<- e3];have f:oR (sc x p) (sc x q) (sc x z)=x*x*oR p q z:=by unfold oR sc;grind
  rw [f];exact Z2 (Z2 hx hx) this
theorem IsShp.pushed {l:List V} (hl:IsShp l) (p0:V):IsShp (l.map (pl p0)):=by
 refine⟨by rw [Zc];exact hl.three,fun k a b ha hb=>?_,fun k a b c ha hb hc na nb=>?_⟩
 ·rw [Zi] at ha hb;obtain⟨p,hp,e⟩:=Zb.mp ha
  obtain⟨q,hq,e2⟩:=Zb.mp hb
  have:=hl.first k p q hp hq
  rw [<- e,<- e2];unfold ltR pl at *;dsimp only;rcases this with h | ⟨h1,h2⟩
  ·exact .inl (by grind)
  ·exact .inr ⟨by grind,by grind⟩
 ·rw [Zc,Zi] at ha;rw [Zi] at hb;obtain⟨p,hp,e⟩:=Zb.mp ha
  obtain⟨q,hq,e2⟩:=Zb.mp hb
  obtain⟨z,hz,e3⟩:=Zv.mp hc
  have:=hl.conv k p q z hp hq hz (fun w=>na (by rw [<- e3,w,e])) fun w=>nb (by rw [<- e3,w,e2])
  rw [<- e,<- e2,<- e3];have f:oR (pl p0 p) (pl p0 q) (pl p0 z)=oR p q z:=by unfold oR pl;grind
  rw [f];exact this
theorem no_gap {l:List V} {x:Rat} {p:V} (hx:0<x) (hl:IsShp l) :
  let r:=(l.map (sc x)).map (pl p)
  (Ar (sumL l r)-(Ar l+Ar r))*(Ar (sumL l r)-(Ar l+Ar r))-4*(Ar l*Ar r)=0:=by
 have h1:=IsShp.sized hl hx;have h2:=IsShp.sized hl (show 0<1+x by grind);have h3:=IsShp.pushed h1 p;have l3:=hl.three;have e:sumL l ((l.map (sc x)).map (pl p))=(l.map (sc (1+x))).map (pl p):=by
  rw [zhb hl h3,zuf h1 hl h3 (IsShp.pushed (sumN h1 hl) p),zhb h1 hl,zps (Zr hx) hl h1 h2]
 intro r;show (Ar (sumL l ((l.map (sc x)).map (pl p)))-(Ar l+Ar ((l.map (sc x)).map (pl p))))*(Ar (sumL l ((l.map (sc x)).map (pl p)))-(Ar l+Ar ((l.map (sc x)).map (pl p))))-4*(Ar l*Ar ((l.map (sc x)).map (pl p)))=0;rw [e,ztd (by rw [Zc];omega),ztd (by rw [Zc];omega),zlo (by omega),zlo (by omega)];generalize Ar l=D;grind
end Mg
namespace Mg
open DL
def Pr (κ:Rat) (A:List Wt):Prop:=∀ t∈A,t.y=κ*t.x
theorem Pr.tail {κ:Rat} {t:Wt} {A:List Wt} (h:Pr κ (t::A)):Pr κ A:=fun s hs=>h s (.tail _ hs)
theorem Pr.sy {κ:Rat}:∀ {A:List Wt},Pr κ A->sy A=sc κ (sx A)
 | [],_=>by show ((0:Rat),(0:Rat))=(0*κ,0*κ);rw [Qq]
 | t::A,h=>by
  show pl (sc t.y t.u) (Mg.sy A)=sc κ (pl (sc t.x t.u) (sx A));rw [Pr.sy h.tail,h t (.head _)];unfold pl sc;exact Z5 (by dsimp only;grind) (by dsimp only;grind)
theorem Pr.tb {κ:Rat}:∀ {A:List Wt},Pr κ A->tb A=2*κ*tx A
 | [],_=>by show (0:Rat)=2*κ*0;grind
 | t::A,h=>by
  show t.x*xr t.u (Mg.sy A)+t.y*xr t.u (sx A)+Mg.tb A=2*κ*(t.x*xr t.u (sx A)+tx A);rw [Pr.tb h.tail,Pr.sy h.tail,h t (.head _),zbt];grind
theorem zzh {a b:Rat} (ha:0<=a) (hb:0<=b) (h:a+b=0):a=0/\b=0:=⟨by grind,by grind⟩
theorem zzz {D1 D2 B c s t:Rat} (hle:4*(D1*D2)<=B*B) (hc:0<c) (p1:0<D1-c*(s*s)) (e:4*((D1-c*(s*s))*(D2-c*(t*t)))=(B-2*c*(s*t))*(B-2*c*(s*t))):4*(D1*D2)=B*B/\2*D1*t=B*s:=by
 have i:((B-2*c*(s*t))*(B-2*c*(s*t))-4*((D1-c*(s*s))*(D2-c*(t*t))))*D1=(B*B-4*(D1*D2))*(D1-c*(s*s))+c*((2*D1*t-B*s)*(2*D1*t-B*s)):=by grind
 have z:(B*B-4*(D1*D2))*(D1-c*(s*s))+c*((2*D1*t-B*s)*(2*D1*t-B*s))=0:=by rw [<- i,e];grind
 obtain⟨z1,z2⟩:=zzh (Zh (show 0<=B*B-4*(D1*D2) by grind) (Zr p1)) (Zh (Zr hc) (ziu (2*D1*t-B*s))) z
 have y1:=zbq p1 z1;have y2:(2*D1*t-B*s)*(2*D1*t-B*s)=0:=(Yt.mp z2).resolve_left (by grind);have y3:2*D1*t-B*s=0:=(Yt.mp y2).elim id id;exact⟨by grind,by grind⟩
theorem up_ne {u:V} (h:up u):u.1≠0\/u.2≠0:=by
 rcases h with h | ⟨_,h⟩
 ·exact .inl (by grind)
 ·exact .inr (by grind)
theorem one_pr {κ:Rat} {r:Wt} (hu:r.u.1≠0\/r.u.2≠0) (h:sc r.y r.u=sc κ (sc r.x r.u)):r.y=κ*r.x:=by
 have e1:r.u.1*r.y=r.u.1*r.x*κ:=congrArg Prod.fst h;have e2:r.u.2*r.y=r.u.2*r.x*κ:=congrArg Prod.snd h;rcases hu with z | z
 ·have:r.u.1*(r.y-κ*r.x)=0:=by grind
  have:=(Yt.mp this).resolve_left z
  grind
 ·have:r.u.2*(r.y-κ*r.x)=0:=by grind
  have:=(Yt.mp this).resolve_left z
  grind
theorem two_pr {κ:Rat} {s t:Wt} (hx:0<xr s.u t.u) (h:sy [s,t]=sc κ (sx [s,t])):Pr κ [s,t]:=by
 have key:∀ v,xr v (sy [s,t])=κ*xr v (sx [s,t]):=fun v=>by rw [h,zbt]
 have k1:=key s.u;have k2:=key t.u;simp only [sx,sy,Bz,zbt,xr_0,zah] at k1 k2;have an:xr t.u s.u = - xr s.u t.u:=Ge _ _;rw [an] at k2;have z1:(t.y-κ*t.x)*xr s.u t.u=0:=by grind
 have z2:(s.y-κ*s.x)*xr s.u t.u=0:=by grind
 have y1:=zbq hx z1;have y2:=zbq hx z2;intro r hr;rcases Zf.mp hr with e | hr
 ·rw [e];grind
 ·rw [Zn.mp hr];grind
theorem cl_sy {κ:Rat} {A B:List Wt} (h:Pr κ A) (cx:pl (sx A) (sx B)=(0,0)) (cy:pl (sy A) (sy B)=(0,0)):sy B=sc κ (sx B):=by
 have e:=h.sy;have e1:(sy A).1=(sx A).1*κ:=congrArg Prod.fst e;have e2:(sy A).2=(sx A).2*κ:=congrArg Prod.snd e;have x1:(sx A).1+(sx B).1=0:=congrArg Prod.fst cx;have x2:(sx A).2+(sx B).2=0:=congrArg Prod.snd cx;have y1:(sy A).1+(sy B).1=0:=congrArg Prod.fst cy;have y2:(sy A).2+(sy B).2=0:=congrArg Prod.snd cy;unfold sc;exact Z5 (by dsimp only;grind) (by dsimp only;grind)
theorem ng_ne {u:V} (h:up (ng u)):u.1≠0\/u.2≠0:=by
 rcases up_ne h with z | z
 ·exact .inl fun e=>z (by show -u.1=0;rw [e];rfl)
 ·exact .inr fun e=>z (by show -u.2=0;rw [e];rfl)
theorem zys {A B:List Wt} (a1:A.length<=1) (b2:B.length<=2) (hA:∀ t∈A,t.u.1≠0\/t.u.2≠0) (oB:B.Pairwise fun s t=>0<xr s.u t.u) (cx:pl (sx A) (sx B)=(0,0)) (cy:pl (sy A) (sy B)=(0,0)) (d:0<tx B) (e:4*(tx B*ty B)=tb B*tb B):∃ κ,Pr κ A/\Pr κ B:=by
 by_cases b1:B.length<=1
 ·rw [(zjh b1).1] at d;exact absurd d (by decide)
 ·obtain⟨s,t,eB⟩:=two_of b2 b1
  subst eB;have X0:0<xr s.u t.u:=(Zt.mp oB).1 t (.head _);obtain⟨f1,f2,f3⟩:=tx2 s t
  rw [f1] at d;rw [f1,f2,f3] at e;have sx0:s.x≠0:=fun z=>by rw [z] at d;simp only [Qq] at d;exact absurd d (by decide)
  have q:(s.x*t.y-s.y*t.x)*(s.x*t.y-s.y*t.x)*(xr s.u t.u*xr s.u t.u)=0:=by grind
  have q2:=zbq (Z2 X0 X0) q;have q3:s.x*t.y-s.y*t.x=0:=(Yt.mp q2).elim id id;have iv:s.x*s.x⁻¹=1:=Wz _ sx0;have pB:Pr (s.y*s.x⁻¹) [s,t]:=fun r hr=>by
   rcases Zf.mp hr with z | hr
   ·rw [z];grind
   ·rw [Zn.mp hr];have:s.x*(t.y-s.y*s.x⁻¹*t.x)=0:=by grind
    have:=(Yt.mp this).resolve_left sx0
    grind
  refine⟨_,?_,pB⟩
  have cx':pl (sx [s,t]) (sx A)=(0,0):=by rw [<- cx];unfold pl;exact Z5 (Yo _ _) (Yo _ _)
  have cy':pl (sy [s,t]) (sy A)=(0,0):=by rw [<- cy];unfold pl;exact Z5 (Yo _ _) (Yo _ _)
  have k:=cl_sy pB cx' cy';match A,a1,hA,k with
  | [],_,_,_=>exact fun r hr=>by cases hr
  | [r],_,hA,k=>
   have z:∀ v:V,pl v (0,0)=v:=fun v=>by unfold pl;exact Z5 (by dsimp only;grind) (by dsimp only;grind)
   have k:sc r.y r.u=sc (s.y*s.x⁻¹) (sc r.x r.u):=by
    have k2:pl (sc r.y r.u) (0,0)=sc (s.y*s.x⁻¹) (pl (sc r.x r.u) (0,0)):=k;rw [z,z] at k2;exact k2
   intro r' hr;rw [Zn.mp hr];exact one_pr (hA r (.head _)) k
end Mg
namespace Mg
open DL
theorem yck {p q r s p' q' r' s' X Y m11 m12 m21 m22:Rat} (plk:X*Y=m11*m22-m12*m21) (rY:r*Y = -(p*m12+q*m22)) (sY:s*Y=p*m11+q*m21) (rY':r'*Y = -(p'*m12+q'*m22)) (sY':s'*Y=p'*m11+q'*m21) :
  (((p*q'+p'*q)*X+(r*s'+r'*s)*Y)*((p*q'+p'*q)*X+(r*s'+r'*s)*Y)-4*((p*q*X+r*s*Y)*(p'*q'*X+r'*s'*Y)))*(Y*Y)=4*((-m12)*m21)*(X*Y)*((p*q'-p'*q)*(p*q'-p'*q)):=by
 have f1:Y*(p*q*X+r*s*Y) = -(m11*m12*(p*p)+2*(m12*m21)*(p*q)+m21*m22*(q*q)):=by
  have:Y*(p*q*X+r*s*Y)=p*q*(X*Y)+(r*Y)*(s*Y):=by grind
  rw [this,plk,rY,sY];grind
 have f2:Y*(p'*q'*X+r'*s'*Y) = -(m11*m12*(p'*p')+2*(m12*m21)*(p'*q')+m21*m22*(q'*q')):=by
  have:Y*(p'*q'*X+r'*s'*Y)=p'*q'*(X*Y)+(r'*Y)*(s'*Y):=by grind
  rw [this,plk,rY',sY'];grind
 have f3:Y*((p*q'+p'*q)*X+(r*s'+r'*s)*Y) = -(2*(m11*m12*(p*p')+m12*m21*(p*q'+p'*q)+m21*m22*(q*q'))):=by
  have:Y*((p*q'+p'*q)*X+(r*s'+r'*s)*Y)=(p*q'+p'*q)*(X*Y)+((r*Y)*(s'*Y)+(r'*Y)*(s*Y)):=by grind
  rw [this,plk,rY,sY,rY',sY'];grind
 generalize p*q*X+r*s*Y=T1 at *;generalize p'*q'*X+r'*s'*Y=T2 at *;generalize (p*q'+p'*q)*X+(r*s'+r'*s)*Y=T3 at *;have:(T3*T3-4*(T1*T2))*(Y*Y)=(Y*T3)*(Y*T3)-4*((Y*T1)*(Y*T2)):=by grind
 rw [this,f1,f2,f3,plk];grind
theorem zux {p q p' q':Rat} (h:p*q'-p'*q=0) (n:p≠0\/q≠0):∃ κ,p'=κ*p/\q'=κ*q:=by
 rcases n with z | z
 ·have iv:p*p⁻¹=1:=Wz _ z;refine⟨p'*p⁻¹,by grind,?_⟩
  have:p*(q'-p'*p⁻¹*q)=0:=by grind
  have:=(Yt.mp this).resolve_left z
  grind
 ·have iv:q*q⁻¹=1:=Wz _ z;refine⟨q'*q⁻¹,?_,by grind⟩
  have:q*(p'-q'*q⁻¹*p)=0:=by grind
  have:=(Yt.mp this).resolve_left z
  grind
theorem ycj {s1 s2 t1 t2:Wt} (hA:Rw [s1,s2]) (hB:Rw [t1,t2]) (u1:up s1.u) (u2:up s2.u) (n1:up (ng t1.u)) (n2:up (ng t2.u)) (cx:pl (sx [s1,s2]) (sx [t1,t2])=(0,0)) (cy:pl (sy [s1,s2]) (sy [t1,t2])=(0,0))
  (d:0<tx [s1,s2]+tx [t1,t2]) (e:4*((tx [s1,s2]+tx [t1,t2])*(ty [s1,s2]+ty [t1,t2]))=(tb [s1,s2]+tb [t1,t2])*(tb [s1,s2]+tb [t1,t2])):∃ κ,Pr κ [s1,s2]/\Pr κ [t1,t2]:=by
 have X0:0<xr s1.u s2.u:=(Zt.mp hA.o).1 s2 (.head _);have Y0:0<xr t1.u t2.u:=(Zt.mp hB.o).1 t2 (.head _);have p0:=hA.x s1 (.head _);have q0:=hA.x s2 (.tail _ (.head _));have r0:=hB.x t1 (.head _);have w0:=hB.x t2 (.tail _ (.head _));obtain⟨a1,a2,a3⟩:=tx2 s1 s2
 obtain⟨b1,b2,b3⟩:=tx2 t1 t2
 have lin:∀ v,s1.x*xr v s1.u+s2.x*xr v s2.u+(t1.x*xr v t1.u+t2.x*xr v t2.u)=0:=fun v=>by
  have h:xr v (pl (sx [s1,s2]) (sx [t1,t2]))=xr v (0,0):=by rw [cx]
  simp only [sx,Bz,zbt,xr_0] at h;grind
 have liny:∀ v,s1.y*xr v s1.u+s2.y*xr v s2.u+(t1.y*xr v t1.u+t2.y*xr v t2.u)=0:=fun v=>by
  have h:xr v (pl (sy [s1,s2]) (sy [t1,t2]))=xr v (0,0):=by rw [cy]
  simp only [sy,Bz,zbt,xr_0] at h;grind
 have c1:0<xr s2.u t1.u:=by
  refine V3.mp fun z=>?_;have l:=lin t1.u;rw [zah] at l;have k1:0<=xr t1.u s2.u:=by rw [Ge];grind
  have k2:0<xr t1.u s1.u:=by
   have:=tr_lt1 u1 u2 n1 X0 (by rw [zdf];grind)
   rw [zdf,<- Ge] at this;exact this
  have y:=z_of (Zh p0 (Zr k2)) (Zh q0 k1) (Zh w0 (Zr Y0)) (by grind);have y1:=zbq k2 y.1;have y3:=zbq Y0 y.2.2;rw [a1,b1,y1,y3] at d;grind
 have c2:0<xr t2.u s1.u:=by
  refine V3.mp fun z=>?_;have l:=lin t2.u;rw [zah] at l;have k2:xr t2.u s2.u<0:=by
   have h1:0<=xr (ng t2.u) s1.u:=by rw [zcc];grind
   have h2:0<xr s1.u s2.u:=X0;have:=tr_lt2 n2 u1 u2 h1 h2
   rw [zcc] at this;grind
  have k3:xr t2.u t1.u<0:=by rw [Ge];grind
  have y:=z_of (Zh p0 (show 0 <= - xr t2.u s1.u by grind)) (Zh q0 (show 0 <= - xr t2.u s2.u by grind)) (Zh r0 (show 0 <= - xr t2.u t1.u by grind)) (by grind);have y2:=zbq (show 0 < - xr t2.u s2.u by grind) y.2.1;have y3:=zbq (show 0 < - xr t2.u t1.u by grind) y.2.2;rw [a1,b1,y2,y3] at d;grind
 have l1:=lin t2.u;have l2:=lin t1.u;have m1:=liny t2.u;have m2:=liny t1.u;rw [zah] at l1 l2 m1 m2;have e1:xr t2.u t1.u = - xr t1.u t2.u:=Ge _ _;have e2:xr t1.u s1.u = - xr s1.u t1.u:=Ge _ _;have e3:xr t1.u s2.u = - xr s2.u t1.u:=Ge _ _;have e4:xr t2.u s1.u = - xr s1.u t2.u:=Ge _ _;have e5:xr t2.u s2.u = - xr s2.u t2.u:=Ge _ _;have plk:xr s1.u s2.u*xr t1.u t2.u=xr s1.u t1.u*xr s2.u t2.u-xr s1.u t2.u*xr s2.u t1.u:=by unfold xr;grind
 rw [a1,a2,a3,b1,b2,b3] at e;rw [a1,b1] at d;rw [e1,e4,e5] at l1 m1;rw [e2,e3] at l2 m2;rw [e4] at c2;have I:=yck plk (p:=s1.x) (q:=s2.x) (r:=t1.x) (s:=t2.x) (p':=s1.y) (q':=s2.y) (r':=t1.y) (s':=t2.y) (by grind) (by grind) (by grind) (by grind);have z:4*((- xr s1.u t2.u)*xr s2.u t1.u)*(xr s1.u s2.u*xr t1.u t2.u)*((s1.x*s2.y-s1.y*s2.x)*(s1.x*s2.y-s1.y*s2.x))=0:=by rw [<- I];grind
 have pos:0<4*((- xr s1.u t2.u)*xr s2.u t1.u)*(xr s1.u s2.u*xr t1.u t2.u):=Z2 (Z2 (by decide) (Z2 c2 c1)) (Z2 X0 Y0);have z2:=(Yt.mp z).resolve_left (by grind);have z3:s1.x*s2.y-s1.y*s2.x=0:=(Yt.mp z2).elim id id;have ne:s1.x≠0\/s2.x≠0:=by
  by_cases k:s1.x=0
  ·refine .inr fun k2=>?_;rw [k,k2] at l1 d;have:t1.x*xr t1.u t2.u=0:=by grind
   have:=zbq Y0 this
   rw [this] at d;grind
  ·exact .inl k
 obtain⟨κ,g1,g2⟩:=zux z3 ne
 have pA:Pr κ [s1,s2]:=fun r hr=>by
  rcases Zf.mp hr with w | hr
  ·rw [w];exact g1
  ·rw [Zn.mp hr];exact g2
 exact⟨κ,pA,two_pr Y0 (cl_sy pA cx cy)⟩
theorem zyf {κ:Rat} {t1 t2 t3:Wt} {L B:List Wt} (h:Rw (t1::t2::t3::L)) (hB:Rw B) (d:0<tx (t1::t2::t3::L)+tx B)
  (e:4*((tx (t1::t2::t3::L)+tx B)*(ty (t1::t2::t3::L)+ty B))=(tb (t1::t2::t3::L)+tb B)*(tb (t1::t2::t3::L)+tb B)) :
  ∃ s1 s3:Wt,s1.u=t1.u/\s3.u=t3.u/\Rw (s1::s3::L)/\sx (s1::s3::L)=sx (t1::t2::t3::L)/\sy (s1::s3::L)=sy (t1::t2::t3::L) /\
   (Gd (s1::s3::L) B->0<tx (s1::s3::L)+tx B/\4*((tx (s1::s3::L)+tx B)*(ty (s1::s3::L)+ty B))=(tb (s1::s3::L)+tb B)*(tb (s1::s3::L)+tb B)/\∀ κ,Pr κ (s1::s3::L)->Pr κ B->Pr κ (t1::t2::t3::L)):=by
 obtain⟨o1,o2⟩:=Zt.mp h.o
 obtain⟨o3,o4⟩:=Zt.mp o2
 obtain⟨o5,o6⟩:=Zt.mp o4
 have k13:=o1 t3 (.tail _ (.head _));have k12:=o1 t2 (.head _);have k23:=o3 t3 (.head _);obtain⟨e1,e2,e3,e4,e5⟩:=elim (L:=L) (zyg (u2:=t2.u) k13)
 have dv:∀ {z:Rat},0<z->0<z/xr t1.u t3.u:=fun {z} hz=>by
  rw [Yw];exact Z2 hz (Q5.mpr k13)
 have pa:=dv k23;have pb:=dv k12;generalize xr t2.u t3.u/xr t1.u t3.u=a at *;generalize xr t1.u t2.u/xr t1.u t3.u=b at *;have x1:=h.x t1 (.head _);have x2:=h.x t2 (.tail _ (.head _));have x3:=h.x t3 (.tail _ (.tail _ (.head _)));have y1:=h.y t1 (.head _);have y2:=h.y t2 (.tail _ (.head _));have y3:=h.y t3 (.tail _ (.tail _ (.head _)));refine⟨⟨t1.u,t1.x+a*t2.x,t1.y+a*t2.y⟩,⟨t3.u,t3.x+b*t2.x,t3.y+b*t2.y⟩,rfl,rfl,⟨fun t ht=>?_,fun t ht=>?_,?_⟩,e1,e2,fun g=>?_⟩
 ·rcases Zf.mp ht with e | ht
  ·rw [e];have:=Zh (Zr pa) x2;show 0<=t1.x+a*t2.x;grind
  ·rcases Zf.mp ht with e | ht
   ·rw [e];have:=Zh (Zr pb) x2;show 0<=t3.x+b*t2.x;grind
   ·exact h.x t (.tail _ (.tail _ (.tail _ ht)))
 ·rcases Zf.mp ht with e | ht
  ·rw [e];have:=Zh (Zr pa) y2;show 0<=t1.y+a*t2.y;grind
  ·rcases Zf.mp ht with e | ht
   ·rw [e];have:=Zh (Zr pb) y2;show 0<=t3.y+b*t2.y;grind
   ·exact h.y t (.tail _ (.tail _ (.tail _ ht)))
 ·refine Zt.mpr ⟨fun t ht=>?_,Zt.mpr ⟨fun t ht=>o5 t ht,o6⟩⟩;rcases Zf.mp ht with e | ht
  ·rw [e];exact k13
  ·exact o1 t (.tail _ (.tail _ ht))
 ·have hc:=Z2 (Z2 pa pb) k13;unfold Gd at g;rw [e3,e4,e5] at g |-;generalize a*b*xr t1.u t3.u=c at *;have cs:=Zh (Zr hc) (ziu t2.x);have f1:tx (t1::t2::t3::L)+c*(t2.x*t2.x)+tx B-c*(t2.x*t2.x)=tx (t1::t2::t3::L)+tx B:=by grind
  have f2:ty (t1::t2::t3::L)+c*(t2.y*t2.y)+ty B-c*(t2.y*t2.y)=ty (t1::t2::t3::L)+ty B:=by grind
  have f3:tb (t1::t2::t3::L)+2*c*(t2.x*t2.y)+tb B-2*c*(t2.x*t2.y)=tb (t1::t2::t3::L)+tb B:=by grind
  obtain⟨q1,q2⟩:=zzz (s:=t2.x) (t:=t2.y) g hc (by rw [f1];exact d) (by rw [f1,f2,f3];exact e)
  refine⟨by grind,q1,fun κ hA hB'=>?_⟩
  have tA:=hA.tb;have tB:=hB'.tb;rw [e3,e5] at tA;have D0:0<tx (t1::t2::t3::L)+c*(t2.x*t2.x)+tx B:=by grind
  have two:t2.y=κ*t2.x:=by
   have:(t2.y-κ*t2.x)*(tx (t1::t2::t3::L)+c*(t2.x*t2.x)+tx B)=0:=by grind
   have:=zbq D0 this
   grind
  have one:t1.y+a*t2.y=κ*(t1.x+a*t2.x):=hA _ (.head _);have thr:t3.y+b*t2.y=κ*(t3.x+b*t2.x):=hA _ (.tail _ (.head _));intro r hr;rcases Zf.mp hr with w | hr
  ·rw [w];rw [two] at one;grind
  ·rcases Zf.mp hr with w | hr
   ·rw [w];exact two
   ·rcases Zf.mp hr with w | hr
    ·rw [w];rw [two] at thr;grind
    ·exact hA r (.tail _ (.tail _ hr))
end Mg
namespace Mg
open DL
theorem zqi (a b:V):pl a b=pl b a:=by unfold pl;exact Z5 (Yo _ _) (Yo _ _)
theorem zyv {A B:List Wt} (a3:A.length<=2) (b3:B.length<=2) (hA:Rw A) (hB:Rw B) (uA:∀ t∈A,up t.u) (uB:∀ t∈B,up (ng t.u)) (cx:pl (sx A) (sx B)=(0,0)) (cy:pl (sy A) (sy B)=(0,0)) (d:0<tx A+tx B) (e:4*((tx A+tx B)*(ty A+ty B))=(tb A+tb B)*(tb A+tb B)):∃ κ,Pr κ A/\Pr κ B:=by
 by_cases a1:A.length<=1
 ·obtain⟨z1,z2,z3⟩:=zjh a1
  rw [z1,Qf] at d;rw [z1,z2,z3,Qf,Qf,Qf] at e;exact zys a1 b3 (fun t ht=>up_ne (uA t ht)) hB.o cx cy d e
 ·by_cases b1:B.length<=1
  ·obtain⟨z1,z2,z3⟩:=zjh b1
   rw [z1,Q8] at d;rw [z1,z2,z3,Q8,Q8,Q8] at e;obtain⟨κ,k1,k2⟩:=zys b1 a3 (fun t ht=>ng_ne (uB t ht)) hA.o (by rw [zqi];exact cx) (by rw [zqi];exact cy) d e
   exact⟨κ,k2,k1⟩
  ·obtain⟨s1,s2,e1⟩:=two_of a3 a1
   obtain⟨t1,t2,e2⟩:=two_of b3 b1
   subst e1;subst e2;exact ycj hA hB (uA _ (.head _)) (uA _ (.tail _ (.head _))) (uB _ (.head _)) (uB _ (.tail _ (.head _))) cx cy d e
theorem zky:∀ (n:Nat) (A B:List Wt),A.length+B.length<=n->Rw A->Rw B->(∀ t∈A,up t.u)->(∀ t∈B,up (ng t.u))->pl (sx A) (sx B)=(0,0)->pl (sy A) (sy B)=(0,0)->0<tx A+tx B->4*((tx A+tx B)*(ty A+ty B))=(tb A+tb B)*(tb A+tb B)->∃ κ,Pr κ A/\Pr κ B
 | 0,A,B,hn,hA,hB,uA,uB,cx,cy,d,e=>zyv (Ya (Ya (Kf _ _) hn) (Yi _)) (Ya (Ya (Nat.le_add_left _ _) hn) (Yi _)) hA hB uA uB cx cy d e
 | n+1,A,B,hn,hA,hB,uA,uB,cx,cy,d,e=>by
  by_cases a3:A.length<=2
  ·by_cases b3:B.length<=2
   ·exact zyv a3 b3 hA hB uA uB cx cy d e
   ·obtain⟨t1,t2,t3,L,z⟩:=zdt b3
    subst z;obtain⟨s1,s3,e1,e3,hR,f1,f2,f3⟩:=zyf (κ:=0) hB hA (by rw [Yo];exact d) (by rw [Yo (tx (t1::t2::t3::L)),Yo (ty (t1::t2::t3::L)),Yo (tb (t1::t2::t3::L))];exact e)
    have uB':=zlw (q:=fun u=>up (ng u)) uB e1 e3;have cx':pl (sx A) (sx (s1::s3::L))=(0,0):=by rw [f1];exact cx
    have cy':pl (sy A) (sy (s1::s3::L))=(0,0):=by rw [f2];exact cy
    have ln:A.length+(s1::s3::L).length<=n:=Q1 hn;obtain⟨g1,g2,g3⟩:=f3 (mink n A (s1::s3::L) ln hA hR uA uB' cx' cy').comm
    obtain⟨κ,k1,k2⟩:=zky n A (s1::s3::L) ln hA hR uA uB' cx' cy' (by rw [Yo];exact g1) (by rw [Yo (tx A),Yo (ty A),Yo (tb A)];exact g2)
    exact⟨κ,k1,g3 κ k2 k1⟩
  ·obtain⟨t1,t2,t3,L,z⟩:=zdt a3
   subst z;obtain⟨s1,s3,e1,e3,hR,f1,f2,f3⟩:=zyf (κ:=0) hA hB d e
   have uA':=zlw (q:=up) uA e1 e3;have cx':pl (sx (s1::s3::L)) (sx B)=(0,0):=by rw [f1];exact cx
   have cy':pl (sy (s1::s3::L)) (sy B)=(0,0):=by rw [f2];exact cy
   have ln:(s1::s3::L).length+B.length<=n:=by simp only [Zu] at hn |-;omega
   obtain⟨g1,g2,g3⟩:=f3 (mink n (s1::s3::L) B ln hR hB uA' uB cx' cy')
   obtain⟨κ,k1,k2⟩:=zky n (s1::s3::L) B ln hR hB uA' uB cx' cy' g1 g2
   exact⟨κ,g3 κ k1 k2,k2⟩
variable {P Q:Nat->V} {n m:Nat}
theorem Ws.head {s:Nat×Nat} {l:List (Nat×Nat)} {M:List Wt} (W:Ws P Q n m s l M) {κ:Rat} (h:Pr κ M):mn (Q m) (Q s.2)=sc κ (mn (P n) (P s.1)):=by rw [<- W.sx,<- W.sy];exact h.sy
theorem Tr.ws2 (hP:Poly P n) (hQ:Poly Q m) {s:Nat×Nat} {l:List (Nat×Nat)} (h:Tr P Q n m s l):∃ M,Ws P Q n m s l M/\∀ κ,Pr κ M->∀ z∈l,mn (Q m) (Q z.2)=sc κ (mn (P n) (P z.1)):=by
 induction h with
 | nil=>
  refine⟨[],⟨?_,?_,?_,?_,?_,?_,?_,List.Pairwise.nil,?_,?_,?_⟩,fun κ _ z hz=>by cases hz⟩
  ·rw [zak];rfl
  ·rw [zak];rfl
  ·rw [K8];rfl
  ·rw [K8];rfl
  ·show (0:Rat)+0+0=0;grind
  all_goals
   intro t ht;cases ht
 | @cons s t l I a b S T ih=>
  obtain⟨M,W,ihM⟩:=ih
  have fin:∀ {w:Wt},Ws P Q n m s (s::l) (w::M)->∃ M,Ws P Q n m s (s::l) M/\∀ κ,Pr κ M->∀ z∈s::l,mn (Q m) (Q z.2)=sc κ (mn (P n) (P z.1)):=fun {w} W'=>⟨_,W',fun κ hκ z hz=>by
   rcases Zf.mp hz with e | hz
   ·rw [e];exact W'.head hκ
   ·exact ihM κ hκ.tail z hz⟩
  have toP:s.1<n->∀ j,j<s.2->bf (ed Q j) (ed P s.1):=fun k j hj=>by
   have:=I.b (by omega) k
   rcases Yg j (s.2-1) with c | c
   ·exact zed (hQ.srt c (by omega)) this
   ·rw [show j=s.2-1 by omega];exact this
  have toQ:s.2<m->∀ j,j<s.1->bf (ed P j) (ed Q s.2):=fun k j hj=>by
   have:=I.a (by omega) k
   rcases Yg j (s.1-1) with c | c
   ·exact zed (hP.srt c (by omega)) this
   ·rw [show j=s.1-1 by omega];exact this
  rcases S with⟨e,k,_⟩ | ⟨e,k,_⟩ | ⟨e,k1,k2,x0⟩
  ·subst e;refine fin (W.step (u:=ed P s.1) (x:=1) (y:=0) T (by decide) (by decide) (hP.half s.1) (sc_1 _) (sc_0 _ _) ?_ ?_ (Ko _) (Zj _) (fun z hz=>W.p z hz s.1 (Qa _)) (fun i hi=>hP.srt hi k) (toP k))
   ·rw [zke k,K3]
   ·rw [Qq,Qf]
  ·subst e;refine fin (W.step (u:=ed Q s.2) (x:=0) (y:=1) T (by decide) (by decide) (hQ.half s.2) (sc_0 _ _) (sc_1 _) ?_ ?_ (Zj _) (Ko _) (fun z hz=>W.q z hz s.2 (Qa _)) (toQ k) (fun i hi=>hQ.srt hi k))
   ·rw [Qq,Qf]
   ·rw [zke k,K3]
  ·subst e;obtain⟨y,y0,e⟩:=par_of (u:=ed P s.1) (v:=ed Q s.2) ((order hP hQ I k1 k2).2.2 x0)
   refine fin (W.step (u:=ed P s.1) (x:=1) (y:=y) T (by decide) y0 (hP.half s.1) (sc_1 _) e ?_ ?_ (Ko _) (Ko _) (fun z hz=>W.p z hz s.1 (Qa _)) (fun i hi=>hP.srt hi k1) (toP k1))
   ·rw [zke k1,K3]
   ·rw [zke k2,e];unfold xr sc;grind
theorem Tr.cov {s:Nat×Nat} {l:List (Nat×Nat)} (h:Tr P Q n m s l):(∀ i,s.1<=i->i<n->∃ j,(i,j)∈l)/\∀ j,s.2<=j->j<m->∃ i,(i,j)∈l:=by
 induction h with
 | nil=>exact⟨fun i h1 h2=>absurd h2 (Nat.not_lt.mpr h1),fun i h1 h2=>absurd h2 (Nat.not_lt.mpr h1)⟩
 | @cons s t l I a b S T ih=>
  have st:t.1<=s.1+1/\t.2<=s.2+1:=by rcases S with⟨e,_⟩ | ⟨e,_⟩ | ⟨e,_⟩ <;> rw [e] <;> dsimp only <;> omega
  refine⟨fun i h1 h2=>?_,fun j h1 h2=>?_⟩
  ·rcases Vs h1 with e | e
   ·subst e;exact⟨s.2,.head _⟩
   ·obtain⟨j,hj⟩:=ih.1 i (by omega) h2
    exact⟨j,.tail _ hj⟩
  ·rcases Vs h1 with e | e
   ·subst e;exact⟨s.1,.head _⟩
   ·obtain⟨i,hi⟩:=ih.2 j (by omega) h2
    exact⟨i,.tail _ hi⟩
end Mg
namespace Mg
open DL
theorem zcb {l:List V} {i:Nat} (h:i<l.length):l[i]? = some (at0 l i):=by
 unfold at0;rw [Zk,Ze h];rfl
theorem zrt {l:List V} (h:IsShp l):∀ k,k+2<=l.length->0<=fanN l k/\(0<k->0<fanN l k)
 | 0,_=>⟨Wp,fun z=>absurd z (by decide)⟩
 | k+1,hk=>by
  have ih:=(zrt h k (by omega)).1;have nd:=nodup h;have g0:=zcb (l:=l) (i:=0) (by omega);have g1:=zcb (l:=l) (i:=k+1) (by omega);have g2:=zcb (l:=l) (i:=k+2) (by omega);have ne:∀ {i j:Nat} {a b:V},l[i]? = some a->l[j]? = some b->i≠j->a≠b:=fun {i j a b} h1 h2 hij e=>by
   subst e;obtain⟨l1,e1⟩:=Zm.mp h1
   obtain⟨l2,e2⟩:=Zm.mp h2
   exact hij ((Kb nd).mp (e1.trans e2.symm))
  have c:=h.conv (k+2) _ _ _ (by rw [show k+2+l.length-1=k+1+l.length by omega,Y7,Zo (by omega)];exact g1) g2 (Yh g0) (ne g0 g1 (by omega)) (ne g0 g2 (by omega));have e:oR (at0 l (k+1)) (at0 l (k+2)) (at0 l 0)=oR (at0 l 0) (at0 l (k+1)) (at0 l (k+2)):=by unfold oR;grind
  rw [e] at c;have:fanN l (k+1)=fanN l k+oR (at0 l 0) (at0 l (k+1)) (at0 l (k+2)):=rfl
  rw [this];exact⟨by grind,fun _=>by grind⟩
theorem zze {l:List V} (h:IsShp l):0<Ar l:=by
 have h3:=h.three;show 0<sX l l.length;rw [shoe (by omega)];exact (zrt h (l.length-2) (by omega)).2 (by omega)
theorem zra {l:List V} {c:V} (h:c∈l):∃ i,i<l.length/\c=rnd l i:=by
 obtain⟨i,hi,e⟩:=Kk h
 refine⟨i,hi,?_⟩
 have:=Gq (l:=l) (by omega) i
 rw [Zo hi,Ze hi] at this;rw [<- e];exact Z3 this
theorem zzd {l r:List V} (hl:IsShp l) (hr:IsShp r):4*(Ar l*Ar r)<=(Ar (sumL l r)-(Ar l+Ar r))*(Ar (sumL l r)-(Ar l+Ar r)) /\
  (4*(Ar l*Ar r)=(Ar (sumL l r)-(Ar l+Ar r))*(Ar (sumL l r)-(Ar l+Ar r))->∃ κ p,0<κ/\r=(l.map (sc κ)).map (pl p)):=by
 have l3:=hl.three;have r3:=hr.three;have hP:=B3 hl (nodup hl);have hQ:=B3 hr (nodup hr);have hS:=sumN hl hr;have s3:=hS.three;have T:=zeh hP hQ (Zj (l.length+r.length));obtain⟨M,W,path⟩:=T.ws2 hP hQ
 obtain⟨A,B,e,a,b⟩:=zyj W.o W.h
 have c1:=W.sx;have c2:=W.sy;have c3:=W.tx;have c4:=W.ty;have c5:=W.tt;dsimp only at c1 c2 c3 c4;rw [K7,ar_sX (by omega)] at c3 c4;have p0:∀ {z:List V},rnd z z.length=rnd z 0:=fun {z}=>by have:=zcw (l:=z) 0;rw [Yv] at this;exact this
 rw [p0,zak] at c1 c2;have c6:G8 (at2 (rnd l) (rnd r) (l.length,r.length)) ((walk (rnd l) (rnd r) l.length r.length (l.length+r.length) (0,0)).map (at2 (rnd l) (rnd r)))=Ar (sumL l r):=by
  show G8 _ (sumL l r)=sX (sumL l r) (sumL l r).length;rw [zbw (by omega),zhw hP hQ];congr 1
  have hd:=T.head (fun z=>by have:=congrArg Prod.fst z;dsimp only at this;omega);have:(sumL l r)[0]? = some (at2 (rnd l) (rnd r) (0,0)):=by
   show ((sumW l r).map _)[0]? = _;rw [Zi];show Option.map _ (walk (rnd l) (rnd r) l.length r.length (l.length+r.length) (0,0))[0]? = _;rw [hd];rfl
  unfold at0;rw [Zk,this];rfl
 rw [c6] at c5;have pos:∀ {C:List Wt},(∀ t∈C,t∈M)->(C.Pairwise fun s t=>0<xr s.u t.u)->Rw C:=fun {C} hC o=>⟨fun t ht=>W.x t (hC t ht),fun t ht=>W.y t (hC t ht),o⟩
 have oo:=W.o;rw [e] at oo;obtain⟨oA,oB,_⟩:=Kg.mp oo
 have RA:Rw A:=pos (fun t ht=>by rw [e];exact W3 _ ht) (We (fun {x y} hx hy h=>by
  rcases h with⟨_,k⟩ | ⟨_,_,k⟩ | ⟨k,_,_⟩
  ·exact (Gg (a y hy) k).elim
  ·exact k
  ·exact (Gg (a x hx) k).elim) oA)
 have RB:Rw B:=pos (fun t ht=>by rw [e];exact Z6 _ ht) (We (fun {x y} hx hy h=>by
  rcases h with⟨k,_⟩ | ⟨k,_,_⟩ | ⟨_,_,k⟩
  ·exact (Gg k (b x hx)).elim
  ·exact (Gg k (b x hx)).elim
  ·exact k) oB)
 obtain⟨f1,f2⟩:=ydy A B
 obtain⟨f3,f4,f5⟩:=app_t A B
 rw [<- e] at f1 f2 f3 f4 f5;rw [c1] at f1;rw [c2] at f2;have G:=mink (A.length+B.length) A B (Zj _) RA RB a b f1.symm f2.symm;have g1:(sx A).1+(sx B).1=0:=(congrArg Prod.fst f1).symm;have g2:(sx A).2+(sx B).2=0:=(congrArg Prod.snd f1).symm;have g3:(sy A).1+(sy B).1=0:=(congrArg Prod.fst f2).symm;have g4:(sy A).2+(sy B).2=0:=(congrArg Prod.snd f2).symm;have z1:xr (sx A) (sx B)=0:=by unfold xr;grind
 have z2:xr (sy A) (sy B)=0:=by unfold xr;grind
 have z3:xr (sx A) (sy B)+xr (sy A) (sx B)=0:=by unfold xr;grind
 rw [z1] at f3;rw [z2] at f4;rw [z3] at f5;have k1:tx A+tx B=Ar l:=by show _=sX l l.length;rw [<- c3,f3];grind
 have k2:ty A+ty B=Ar r:=by show _=sX r r.length;rw [<- c4,f4];grind
 have k3:tb A+tb B=Ar (sumL l r)-(Ar l+Ar r):=by
  have:tb A+tb B=tb M:=by rw [f5];grind
  rw [this,<- c5];show _=_-(sX l l.length+sX r r.length);rw [<- c3,<- c4];grind
 unfold Gd at G;rw [k1,k2,k3] at G;refine⟨G,fun eq=>?_⟩
 have dl:=zze hl;have dr:=zze hr;rw [<- k3,<- k1,<- k2] at eq;obtain⟨κ,pA,pB⟩:=zky (A.length+B.length) A B (Zj _) RA RB a b f1.symm f2.symm (by rw [k1];exact dl) eq
 have tA:=pA.tb;have tB:=pB.tb;have V2:tb A+tb B=2*κ*Ar l:=by rw [tA,tB,<- k1];grind
 have V0:0<=tb A+tb B:=by
  have:=RA.pos.2.2
  have:=RB.pos.2.2
  grind
 rw [V2] at eq V0;rw [k1,k2] at eq;have κ2:Ar r=κ*κ*Ar l:=by
  have:(Ar r-κ*κ*Ar l)*Ar l=0:=by grind
  have:=zbq dl this
  grind
 have κ0:0<κ:=by
  refine V3.mp fun z=>?_;have q1:0<=(-κ)*Ar l:=Zh (by grind) (Zr dl);have q2:κ*Ar l=0:=by grind
  have:=zbq dl q2
  rw [this] at κ2;grind
 have prM:Pr κ M:=fun t ht=>by
  rw [e] at ht;rcases Ys.mp ht with q | q
  ·exact pA t q
  ·exact pB t q
 have pth:=path κ prM;refine⟨κ,mn (rnd r r.length) (sc κ (rnd l l.length)),κ0,?_⟩
 have at_:∀ z∈walk (rnd l) (rnd r) l.length r.length (l.length+r.length) (0,0),rnd r z.2=pl (mn (rnd r r.length) (sc κ (rnd l l.length))) (sc κ (rnd l z.1)):=fun z hz=>by
  have q:=pth z hz;have q1:(rnd r r.length).1-(rnd r z.2).1=((rnd l l.length).1-(rnd l z.1).1)*κ:=congrArg Prod.fst q;have q2:(rnd r r.length).2-(rnd r z.2).2=((rnd l l.length).2-(rnd l z.1).2)*κ:=congrArg Prod.snd q;unfold pl mn sc;exact Z5 (by dsimp only;grind) (by dsimp only;grind)
 have hL:=IsShp.pushed (IsShp.sized hl κ0) (mn (rnd r r.length) (sc κ (rnd l l.length)));refine zyu hr hL (fun c hc=>?_) fun c hc=>?_
 ·obtain⟨j,hj,ej⟩:=zra hc
  obtain⟨i,hi⟩:=T.cov.2 j (Yi _) hj
  rw [ej,at_ _ hi];exact Y4 (Y4 (G7 (by omega) _))
 ·obtain⟨q,hq,eq1⟩:=Zv.mp hc
  obtain⟨q',hq',eq2⟩:=Zv.mp hq
  obtain⟨i,hi,ei⟩:=zra hq'
  obtain⟨j,hj⟩:=T.cov.1 i (Yi _) hi
  rw [<- eq1,<- eq2,ei,<- at_ _ hj];exact G7 (by omega) _
end Mg
namespace Mg
open DL
theorem rnd_sc {r:List V} {x:Rat} (i:Nat):rnd (r.map (sc x)) i=sc x (rnd r i):=by
 unfold rnd;rw [Zc,Zk,Zk,Zi];cases r[i%r.length]? with
 | none=>show ((0:Rat),(0:Rat))=(0*x,0*x);rw [Qq]
 | some q=>rfl
theorem sgn_sc {x z:Rat} (hx:0<x):(0<=x*z↔0<=z)/\(x*z<=0↔z<=0):=by
 refine⟨⟨fun h=>nn_of_mul hx (by rw [Js];exact h),fun h=>Zh (Zr hx) h⟩,fun h=>?_,fun h=>?_⟩
 ·have:=nn_of_mul (a:=-z) hx (by grind)
  grind
 ·have:=Zh (Zr hx) (show 0 <= -z by grind)
  grind
variable {P Q:Nat->V} {n m:Nat}
theorem nxt_sc {x:Rat} (hx:0<x) (s:Nat×Nat):nxt P (fun i=>sc x (Q i)) n m s=nxt P Q n m s:=by
 have e:xr (ed P s.1) (ed (fun i=>sc x (Q i)) s.2)=x*xr (ed P s.1) (ed Q s.2):=by
  unfold ed xr mn sc;grind
 have k:=sgn_sc (z:=xr (ed P s.1) (ed Q s.2)) hx;have b:(0<=bend P (fun i=>sc x (Q i)) n m s.1 s.2↔0<=bend P Q n m s.1 s.2)/\(bend P (fun i=>sc x (Q i)) n m s.1 s.2<=0↔bend P Q n m s.1 s.2<=0):=by
  unfold bend;by_cases hj:s.2<m
  ·rw [if_pos hj,if_pos hj];by_cases hi:s.1<n
   ·rw [if_pos hi,if_pos hi,e];exact k
   ·rw [if_neg hi,if_neg hi];exact⟨Vl,Vl⟩
  ·rw [if_neg hj,if_neg hj];exact⟨Vl,Vl⟩
 unfold nxt;refine Z5 ?_ ?_
 ·dsimp only;by_cases c:0<=bend P Q n m s.1 s.2
  ·rw [if_pos c,if_pos (b.1.mpr c)]
  ·rw [if_neg c,if_neg fun z=>c (b.1.mp z)]
 ·dsimp only;by_cases c:bend P Q n m s.1 s.2<=0
  ·rw [if_pos c,if_pos (b.2.mpr c)]
  ·rw [if_neg c,if_neg fun z=>c (b.2.mp z)]
theorem zoz {x:Rat} (hx:0<x):∀ (k:Nat) (s:Nat×Nat),walk P (fun i=>sc x (Q i)) n m k s=walk P Q n m k s
 | 0,s=>by unfold walk;rfl
 | k+1,s=>by
  unfold walk;rw [nxt_sc hx];by_cases c:s.1<n\/s.2<m
  ·rw [if_pos c,if_pos c,zoz hx k]
  ·rw [if_neg c,if_neg c]
def zvc (P Q:Nat->V) (a b:V):List (Nat×Nat)->Rat
 | []=>0
 | [_]=>0
 | s::t::r=>xr (mn (P t.1) (P s.1)) (mn b (Q t.2))+xr (mn (Q t.2) (Q s.2)) (mn a (P t.1))+zvc P Q a b (t::r)
theorem zml {a b:V} {x:Rat}:∀ T:List (Nat×Nat),G8 (pl a (sc x b)) (T.map (at2 P (fun i=>sc x (Q i))))=G8 a (T.map fun s=>P s.1)+x*zvc P Q a b T+x*x*G8 b (T.map fun s=>Q s.2)
 | []=>by show (0:Rat)=0+x*0+x*x*0;grind
 | [_]=>by show (0:Rat)=0+x*0+x*x*0;grind
 | s::t::r=>by
  have ih:=zml (a:=a) (b:=b) (x:=x) (t::r);show xr (mn (at2 P (fun i=>sc x (Q i)) t) (at2 P (fun i=>sc x (Q i)) s)) (mn (pl a (sc x b)) (at2 P (fun i=>sc x (Q i)) t))+G8 (pl a (sc x b)) ((t::r).map (at2 P (fun i=>sc x (Q i))))=xr (mn (P t.1) (P s.1)) (mn a (P t.1))+G8 a ((t::r).map fun s=>P s.1)+x*(xr (mn (P t.1) (P s.1)) (mn b (Q t.2))+xr (mn (Q t.2) (Q s.2)) (mn a (P t.1))+zvc P Q a b (t::r))+x*x*(xr (mn (Q t.2) (Q s.2)) (mn b (Q t.2))+G8 b ((t::r).map fun s=>Q s.2));rw [ih];unfold at2 pl mn sc xr;grind
theorem Tr.path1 {s:Nat×Nat} {l:List (Nat×Nat)} (h:Tr P Q n m s l):G8 (P n) (l.map fun s=>P s.1)=arF P n (n-s.1)/\G8 (Q m) (l.map fun s=>Q s.2)=arF Q m (m-s.2):=by
 induction h with
 | nil=>exact⟨by rw [K8];rfl,by rw [K8];rfl⟩
 | @cons s t l I a b S T ih=>
  have one:∀ (f:Nat×Nat->V) (e:V),f (n,m)=e->G8 e ((s::l).map f)=xr (mn (f t) (f s)) (mn e (f t))+G8 e (l.map f):=fun f e he=>by
   cases T with
   | nil=>show (0:Rat)=xr (mn (f (n,m)) (f s)) (mn e (f (n,m)))+0;rw [he,zak,xr_0];grind
   | cons _ _ _ _ _=>rfl
  rw [one (fun s=>P s.1) (P n) rfl,one (fun s=>Q s.2) (Q m) rfl,ih.1,ih.2];have z:∀ u v:V,xr (mn u u) v=0:=fun u v=>by unfold xr mn;grind
  rcases S with⟨e,k,_⟩ | ⟨e,k,_⟩ | ⟨e,k1,k2,x0⟩
  ·subst e;exact⟨(zke k).symm,by dsimp only;rw [z];grind⟩
  ·subst e;exact⟨by dsimp only;rw [z];grind,(zke k).symm⟩
  ·subst e;exact⟨(zke k1).symm,(zke k2).symm⟩
theorem zzu {l r:List V} (hl:IsShp l) (hr:IsShp r):∃ β:Rat,∀ x:Rat,0<x->Ar (sumL l (r.map (sc x)))=Ar l+x*β+x*x*Ar r:=by
 have l3:=hl.three;have r3:=hr.three;have hP:=B3 hl (nodup hl);have hQ:=B3 hr (nodup hr);have T:=zeh hP hQ (Zj (l.length+r.length));obtain⟨p1,p2⟩:=T.path1
 dsimp only at p1 p2;rw [K7,ar_sX (by omega)] at p1 p2;refine⟨zvc (rnd l) (rnd r) (rnd l l.length) (rnd r r.length) (walk (rnd l) (rnd r) l.length r.length (l.length+r.length) (0,0)),fun x hx=>?_⟩
 have hx':=IsShp.sized hr hx;have hQ':=B3 hx' (nodup hx');have s3:=(sumN hl hx').three;have eQ:rnd (r.map (sc x))=fun i=>sc x (rnd r i):=funext fun i=>rnd_sc i
 have ln:(r.map (sc x)).length=r.length:=Zc ..;have eT:walk (rnd l) (rnd (r.map (sc x))) l.length (r.map (sc x)).length (l.length+(r.map (sc x)).length) (0,0)=walk (rnd l) (rnd r) l.length r.length (l.length+r.length) (0,0):=by rw [ln,eQ,zoz hx]
 have T':=zeh hP hQ' (Zj (l.length+(r.map (sc x)).length));have c6:G8 (at2 (rnd l) (rnd (r.map (sc x))) (l.length,(r.map (sc x)).length)) ((walk (rnd l) (rnd (r.map (sc x))) l.length (r.map (sc x)).length (l.length+(r.map (sc x)).length) (0,0)).map (at2 (rnd l) (rnd (r.map (sc x)))))=Ar (sumL l (r.map (sc x))):=by
  show G8 _ (sumL l (r.map (sc x)))=sX (sumL l (r.map (sc x))) (sumL l (r.map (sc x))).length;rw [zbw (by omega),zhw hP hQ'];congr 1
  have hd:=T'.head (fun z=>by have:=congrArg Prod.fst z;dsimp only at this;omega);have:(sumL l (r.map (sc x)))[0]? = some (at2 (rnd l) (rnd (r.map (sc x))) (0,0)):=by
   show ((sumW l (r.map (sc x))).map _)[0]? = _;rw [Zi];show Option.map _ (walk (rnd l) (rnd (r.map (sc x))) l.length (r.map (sc x)).length (l.length+(r.map (sc x)).length) (0,0))[0]? = _;rw [hd];rfl
  unfold at0;rw [Zk,this];rfl
 rw [<- c6,eT,ln,eQ];show G8 (pl (rnd l l.length) (sc x (rnd r r.length))) _=sX l l.length+_+_*sX r r.length;rw [zml,p1,p2]
theorem gap_sc {l r:List V} (hl:IsShp l) (hr:IsShp r) {x:Rat} (hx:0<x):Ar (sumL l (r.map (sc x)))-(Ar l+Ar (r.map (sc x)))=x*(Ar (sumL l r)-(Ar l+Ar r)):=by
 have r3:=hr.three;obtain⟨β,h⟩:=zzu hl hr
 have h1:=h 1 (by decide);have e:r.map (sc 1)=r:=by
  have:sc 1=id:=funext fun q=>by unfold sc;exact Z5 (by dsimp only [id];grind) (by dsimp only [id];grind)
  rw [this,List.map_id]
 rw [e] at h1;rw [h x hx,zlo (by omega),h1];grind
end Mg
open Sf
section
variable {Γ:Nat->List D->Option W}
def crI (s t:H3):Int:=s.1*t.2.1-s.2.1*t.1
def zfg:List D->Option W:=run (tab []) zfw 2
theorem ok_cross:∀ ds w,ds.length=2->zfg ds=some w->run Γ zfw 2 ds=some w:=fun ds w _ h=>zay [] (fun p hp=>by cases hp) (by decide) ds w h
theorem zsc {s t:H3} (hs:HB 3000 s) (ht:HB 3000 t):zfg [hD s,hD t]=some (.val (.int (crI s t))):=by
 have m1:Gp s.1 t.2.1=true:=Gk hs.a ht.b (by decide) (by decide);have m2:Gp s.2.1 t.1=true:=Gk hs.b ht.a (by decide) (by decide);unfold zfg;generalize tab []=Γ;unfold crI hD zfw;clear hs ht;walk_at "evh"
def zgj:List H3->List H3->Int
 | _,[]=>1
 | [],_::_=>-1
 | s::_,t::_=>crI s t
abbrev zkl:List (Nat×(List D->Option W)):=[(81,zfg)]
def zjl:List D->Option W:=run (tab zkl) Gv 2
theorem ok_next_bend (h81:Γ 81=zfg):∀ ds w,ds.length=2->zjl ds=some w->run Γ Gv 2 ds=some w:=fun ds w _ h=>zay zkl (by
 intro p hp;rcases Zn.mp hp with rfl;exact h81) (by decide) ds w h
theorem zyz:∀ l:List H3,dOkL 49 (l.map hD)=true
 | []=>rfl
 | p::l=>by
  rw [Yk];unfold dOkL;rw [zyz l];rfl
theorem zdi:∀ l:List H3,lfL (l.map hD)=true
 | []=>rfl
 | p::l=>by rw [Yk];unfold lfL;rw [zdi l];rfl
theorem zfo (l:List H3):cmpD .eq (.lst (l.map hD)) (.lst [])=some (decide (l=[])):=by
 have d:=zyz l;show (if (dOkL 49 (l.map hD) && dOkL 49 [])=true then some (eqL (l.map hD) []) else none)=_;rw [d,if_pos (show (true && dOkL 49 [])=true from rfl)];cases l with
 | nil=>rfl
 | cons x l=>rfl
theorem zwx {φ:List D->Option W} (h81:Γ 81=φ) {x y:D} {A B:List D} {c:Int} (a0:L2.atI A 0=some x) (b0:L2.atI B 0=some y) (a:cmpD .eq (.lst A) (.lst [])=some false) (b:cmpD .eq (.lst B) (.lst [])=some false) (la:lfL A=true) (lb:lfL B=true) (h:φ [x,y]=some (.val (.int c))) :
  run Γ Gv 2 [.lst A,.lst B]=some (.val (.int c)):=by
 unfold Gv;walk_at "evh"
theorem zsv {A B:List D} (b:cmpD .eq (.lst B) (.lst [])=some true) (lb:lfL B=true):run Γ Gv 2 [.lst A,.lst B]=some (.val (.int 1)):=by
 unfold Gv;walk_at "evh"
theorem zsu {A B:List D} (a:cmpD .eq (.lst A) (.lst [])=some true) (b:cmpD .eq (.lst B) (.lst [])=some false) (la:lfL A=true) (lb:lfL B=true):run Γ Gv 2 [.lst A,.lst B]=some (.val (.int (-1))):=by
 unfold Gv;walk_at "evh"
theorem znq {l:List D} {k:Nat} {x:D} (h:l[k]? = some x):L2.atI l (k:Int)=some x:=by
 have hk:k<l.length:=by
  rcases Yg k l.length with q | q
  ·exact q
  ·rw [Yr q] at h;cases h
 rw [zta (Yl k) (by omega),Wm,h]
theorem at_hd (x:H3) (l:List H3):L2.atI ((x::l).map hD) 0=some (hD x):=znq (k:=0) rfl
theorem zwy {A B:List H3} (hA:∀ s∈A,HB 3000 s) (hB:∀ s∈B,HB 3000 s):zjl [.lst (A.map hD),.lst (B.map hD)]=some (.val (.int (zgj A B))):=by
 unfold zjl;generalize hΓ:tab zkl=Γ;have h81:Γ 81=zfg:=by rw [<- hΓ];rfl
 cases B with
 | nil=>
  have:=zsv (Γ:=Γ) (A:=A.map hD) (zfo []) (zdi [])
  cases A <;> exact this
 | cons t B=>
  cases A with
  | nil=>exact zsu (zfo []) (zfo (t::B)) (zdi []) (zdi (t::B))
  | cons s A=>exact zwx h81 (x:=hD s) (y:=hD t) (at_hd _ _) (at_hd _ _) (zfo (s::A)) (zfo (t::B)) (zdi (s::A)) (zdi (t::B)) (zsc (hA s (.head _)) (hB t (.head _)))
abbrev zfn:E:=(.or (.cmp .lt (.var 5) (.bi .len (.cons (.var 0) .nil))) (.cmp .lt (.var 6) (.bi .len (.cons (.var 1) .nil))))
abbrev zda:Ss:=(.cons (.app 4 (.call 67 (.cons (.ix (.var 0) (.bin .mod (.var 5) (.bi .len (.cons (.var 0) .nil)))) (.cons (.ix (.var 1) (.bin .mod (.var 6) (.bi .len (.cons (.var 1) .nil)))) .nil)))) (.cons (.asg 7 (.call 83 (.cons (.sl (.var 2) (.som (.var 5)) .non) (.cons (.sl (.var 3) (.som (.var 6)) .non) .nil)))) (.cons (.iff (.cmp .ge (.var 7) (.int 0)) (.cons (.asg 5 (.bin .add (.var 5) (.int 1))) .nil) .nil) (.cons (.iff (.cmp .le (.var 7) (.int 0)) (.cons (.asg 6 (.bin .add (.var 6) (.int 1))) .nil) .nil) .nil))))
theorem zhz {L1 L2' S1 S2 C:List D} {i j n m:Int} {c:Option B} {r:Bool} (hn:(L1.length:Int)=n) (hm:(L2'.length:Int)=m) (hr:decide (i<n\/j<m)=r) :
  evB Γ zfn [some (.sh (.lst L1)),some (.sh (.lst L2')),some (.ow S1),some (.ow S2),some (.ow C),some (.sh (.int i)),some (.sh (.int j)),c]=some r:=by
 subst hr;by_cases h1:i<n
 ·rw [decide_eq_true (.inl h1)];have h1':(i<n)=True:=eq_true h1;walk_at "evh"
 ·have h1':(i<n)=False:=eq_false h1;by_cases h2:j<m
  ·have h2':(j<m)=True:=eq_true h2;rw [decide_eq_true (.inr h2)];walk_at "evh"
  ·have h2':(j<m)=False:=eq_false h2;rw [decide_eq_false (fun z=>z.elim h1 h2)];walk_at "evh"
theorem zue {φ ψ:List D->Option W} (h67:Γ 67=φ) (h83:Γ 83=ψ) {L1 L2' S1 S2 C A B':List D} {i j n m b:Int} {x y z:D} {c:Option B} (hn:(L1.length:Int)=n) (hm:(L2'.length:Int)=m) (n0:0<n) (m0:0<m) (nz:(n=0)=False) (mz:(m=0)=False) (dn:zaf n=true) (dm:zaf m=true)
  (a1:L2.atI L1 (i%n)=some x) (a2:L2.atI L2' (j%m)=some y) (f:φ [x,y]=some (.val z)) (lz:lf z=true) (cz:(C.length<PySem.sizeLine)=True) (c1:cutD S1 (some i) none=A) (c2:cutD S2 (some j) none=B') (g:ψ [.lst A,.lst B']=some (.val (.int b))) :
  exs Γ zda [some (.sh (.lst L1)),some (.sh (.lst L2')),some (.ow S1),some (.ow S2),some (.ow C),some (.sh (.int i)),some (.sh (.int j)),c]
   = some (.nx [some (.sh (.lst L1)),some (.sh (.lst L2')),some (.ow S1),some (.ow S2),some (.ow (C++[z])),some (.sh (.int (if 0<=b then i+1 else i))),some (.sh (.int (if b<=0 then j+1 else j))),some (.sh (.int b))]):=by
 unfold zda;by_cases h1:0<=b <;> by_cases h2:b<=0
 ·rw [if_pos h1,if_pos h2];have h1':(0<=b)=True:=eq_true h1;have h2':(b<=0)=True:=eq_true h2;walk_at "evh"
 ·rw [if_pos h1,if_neg h2];have h1':(0<=b)=True:=eq_true h1;have h2':(b<=0)=False:=eq_false h2;walk_at "evh"
 ·rw [if_neg h1,if_pos h2];have h1':(0<=b)=False:=eq_false h1;have h2':(b<=0)=True:=eq_true h2;walk_at "evh"
 ·omega
end
open Sf Mg
section
variable {Γ:Nat->List D->Option W}
theorem yda {s e s' e':Rat×Rat} (h:s≠e) (h':s'≠e'):∃ k:Rat,0<k/\(crI (zcg s e) (zcg s' e'):Rat)=k*xr (mn e s) (mn e' s'):=by
 obtain⟨_,k,kp,e1,e2,_⟩:=zrf (c:=(s.2-e.2)*s.1+(e.1-s.1)*s.2) (zhk h)
 obtain⟨_,k',kp',f1,f2,_⟩:=zrf (c:=(s'.2-e'.2)*s'.1+(e'.1-s'.1)*s'.2) (zhk h')
 refine⟨k*k',Z2 kp kp',?_⟩
 unfold crI zcg xr mn;rw [K6,Wq,Wq,e1,e2,f1,f2];grind
theorem yac {c:Int} {k x:Rat} (hk:0<k) (e:(c:Rat)=k*x):(0<=c↔0<=x)/\(c<=0↔x<=0):=by
 have z:((0:Int):Rat)=0:=rfl;constructor
 ·rw [<- Uw,z,e];constructor
  ·intro h;exact nn_of_mul hk (by rw [Js];exact h)
  ·intro h;exact Zh (Zr hk) h
 ·rw [<- Uw,z,e];constructor
  ·intro h;have:=nn_of_mul (a:=-x) hk (by grind)
   grind
  ·intro h;have:=Zh (Zr hk) (show 0 <= -x by grind)
   grind
theorem zpu {l:List (Rat×Rat)} {i:Nat} (hi:i<l.length):(Gm l).drop i=zcg (rnd l i) (rnd l (i+1))::(Gm l).drop (i+1):=by
 have hl:i<(Gm l).length:=by unfold Gm;rw [Zc,Bn];exact hi
 rw [Z1 hl];congr 1
 have hp:i<(G9 l).length:=by rw [Bn];exact hi
 have g:=zfa (l:=l) (k:=i) (Ze hp);have a:=Gq (l:=l) (by omega) i;have b:=Gq (l:=l) (by omega) (i+1);rw [Zo hi] at a;rw [a] at g;rw [b] at g;have g1:=Z3 g.1;have g2:=Z3 g.2;show (List.map (fun p=>zcg p.1 p.2) (G9 l))[i]'(by rw [Zc];exact hp)=_;rw [Jv,<- g1,<- g2]
theorem zmc {l:List (Rat×Rat)} {i:Nat} (hi:¬ i<l.length):(Gm l).drop i=[]:=by
 refine List.drop_eq_nil_of_le ?_;unfold Gm;rw [Zc,Bn];omega
theorem zxp {l:List (Rat×Rat)} (nd:l.Nodup) (h2:2<=l.length) (i:Nat):rnd l i≠rnd l (i+1):=fun e=>by
 have:=zhg nd (by omega) e.symm
 have a:=Qc i (show 0<l.length by omega);rw [<- Qw] at this;rcases Yg (i%l.length+1) l.length with k | k
 ·rw [Zo k] at this;omega
 ·rw [show i%l.length+1=l.length by omega,Q9] at this;omega
theorem bend1 (l:List H3):zgj l []=1:=by cases l <;> rfl
theorem bend2 (x:H3) (l:List H3):zgj [] (x::l) = -1:=rfl
theorem zst {l r:List (Rat×Rat)} (nl:l.Nodup) (nr:r.Nodup) (l2:2<=l.length) (r2:2<=r.length) (i j:Nat) :
  (0<=zgj ((Gm l).drop i) ((Gm r).drop j)↔0<=bend (rnd l) (rnd r) l.length r.length i j)/\(zgj ((Gm l).drop i) ((Gm r).drop j)<=0↔bend (rnd l) (rnd r) l.length r.length i j<=0):=by
 unfold bend;by_cases hj:j<r.length
 ·rw [if_pos hj,zpu hj];by_cases hi:i<l.length
  ·rw [if_pos hi,zpu hi];obtain⟨k,kp,e⟩:=yda (zxp nl l2 i) (zxp nr r2 j)
   exact yac kp e
  ·rw [if_neg hi,zmc hi,bend2];exact⟨⟨fun h=>absurd h (by decide),fun h=>absurd h (by decide)⟩,⟨fun _=>by decide,fun _=>by decide⟩⟩
 ·rw [if_neg hj,zmc hj,bend1];exact⟨⟨fun _=>by decide,fun _=>by decide⟩,⟨fun h=>absurd h (by decide),fun h=>absurd h (by decide)⟩⟩
theorem zmy {l:List (Rat×Rat)} (nd:l.Nodup) (h2:2<=l.length) (hz:SzL 165 l):∀ s∈Gm l,HB 3000 s:=fun s hs=>by
 obtain⟨p,hp,e⟩:=Zv.mp hs
 obtain⟨a,b,c⟩:=zqx nd h2 hp
 rw [<- e];exact yad (hz _ b).1 (hz _ b).2 (hz _ c).1 (hz _ c).2 a
theorem zly (h67:Γ 67=zbb) (h83:Γ 83=zjl) {l r:List (Rat×Rat)} (nl:l.Nodup) (nr:r.Nodup) (l2:2<=l.length) (r2:2<=r.length) (zl:SzL 165 l) (zr:SzL 165 r) (ll:l.length<=400) (rl:r.length<=400) :
  ∀ (k i j:Nat) (C:List D) (c:Option B),i<=l.length->j<=r.length->l.length+r.length<=k+i+j->C.length+k<=1000 ->
  ∃ (i' j':Int) (c':Option B),G3 (evB Γ zfn) (exs Γ zda) (k+1) [some (.sh (.lst (l.map stD))),some (.sh (.lst (r.map stD))),some (.ow ((Gm l).map hD)),some (.ow ((Gm r).map hD)),some (.ow C),some (.sh (.int (i:Int))),some (.sh (.int (j:Int))),c]
   = some (.nx [some (.sh (.lst (l.map stD))),some (.sh (.lst (r.map stD))),some (.ow ((Gm l).map hD)),some (.ow ((Gm r).map hD)),some (.ow (C++(walk (rnd l) (rnd r) l.length r.length k (i,j)).map fun s=>stD (at2 (rnd l) (rnd r) s))),some (.sh (.int i')),some (.sh (.int j')),c'])
 | 0,i,j,C,c,hi,hj,hk,hC=>by
  refine⟨i,j,c,?_⟩
  unfold G3;rw [zhz (n:=(l.length:Int)) (m:=(r.length:Int)) (r:=false) (by rw [Zc]) (by rw [Zc]) (decide_eq_false (by omega))];unfold walk;rw [Kp,Qv]
 | k+1,i,j,C,c,hi,hj,hk,hC=>by
  unfold G3;by_cases cd:i<l.length\/j<r.length
  ·rw [zhz (n:=(l.length:Int)) (m:=(r.length:Int)) (r:=true) (by rw [Zc]) (by rw [Zc]) (decide_eq_true (by omega))];have l0:0<l.length:=by omega
   have r0:0<r.length:=by omega
   have g1:=Gq l0 i;have g2:=Gq r0 j;have a1:L2.atI (l.map stD) ((i:Int)%(l.length:Int))=some (stD (rnd l i)):=by
    rw [<- Int.natCast_emod];exact znq (by rw [Zi,g1];rfl)
   have a2:L2.atI (r.map stD) ((j:Int)%(r.length:Int))=some (stD (rnd r j)):=by
    rw [<- Int.natCast_emod];exact znq (by rw [Zi,g2];rfl)
   have ml:=zl _ (G7 l0 i);have mr:=zr _ (G7 r0 j);have f:=zkf ml mr;have hs1:=zmy nl l2 zl;have hs2:=zmy nr r2 zr;have g:=zwy (A:=(Gm l).drop i) (B:=(Gm r).drop j) (fun s hs=>hs1 s (U5 hs)) (fun s hs=>hs2 s (U5 hs));have sl1:(Gm l).length=l.length:=by unfold Gm;rw [Zc,Bn]
   have sl2:(Gm r).length=r.length:=by unfold Gm;rw [Zc,Bn]
   have st:=zue h67 h83 (c:=c) (C:=C) (n:=(l.length:Int)) (m:=(r.length:Int)) (by rw [Zc]) (by rw [Zc]) (by omega) (by omega) (eq_false (by omega)) (eq_false (by omega)) (B5 (by omega) (by omega)) (B5 (by omega) (by omega)) a1 a2 f rfl (eq_true (by rw [Qy];omega))
    (zhy (l:=(Gm l).map hD) (by rw [Zc,sl1];exact hi)) (zhy (l:=(Gm r).map hD) (by rw [Zc,sl2];exact hj)) (by rw [<- K0,<- K0];exact g)
   obtain⟨b1,b2⟩:=zst nl nr l2 r2 i j
   have e1:(if 0<=zgj ((Gm l).drop i) ((Gm r).drop j) then (i:Int)+1 else (i:Int))=((nxt (rnd l) (rnd r) l.length r.length (i,j)).1:Int):=by
    unfold nxt;dsimp only;by_cases q:0<=zgj ((Gm l).drop i) ((Gm r).drop j)
    ·rw [if_pos q,if_pos (b1.mp q)];rfl
    ·rw [if_neg q,if_neg fun z=>q (b1.mpr z)]
   have e2:(if zgj ((Gm l).drop i) ((Gm r).drop j)<=0 then (j:Int)+1 else (j:Int))=((nxt (rnd l) (rnd r) l.length r.length (i,j)).2:Int):=by
    unfold nxt;dsimp only;by_cases q:zgj ((Gm l).drop i) ((Gm r).drop j)<=0
    ·rw [if_pos q,if_pos (b2.mp q)];rfl
    ·rw [if_neg q,if_neg fun z=>q (b2.mpr z)]
   rw [e1,e2] at st;have S:=zqq (P:=rnd l) (Q:=rnd r) (s:=(i,j)) hi hj cd;have bb:(nxt (rnd l) (rnd r) l.length r.length (i,j)).1<=l.length/\(nxt (rnd l) (rnd r) l.length r.length (i,j)).2<=r.length/\i+j+1<=(nxt (rnd l) (rnd r) l.length r.length (i,j)).1+(nxt (rnd l) (rnd r) l.length r.length (i,j)).2:=by
    rcases S with⟨e,a,_⟩ | ⟨e,a,_⟩ | ⟨e,a,a',_⟩ <;> rw [e] <;> dsimp only at * <;> omega
   obtain⟨i',j',c',ih⟩:=zly h67 h83 nl nr l2 r2 zl zr ll rl k _ _ (C++[stD (pshR (rnd r j) (rnd l i))]) (some (.sh (.int (zgj ((Gm l).drop i) ((Gm r).drop j))))) bb.1 bb.2.1 (by omega) (by rw [Zw,Zu,Kj];omega)
   refine⟨i',j',c',?_⟩
   simp only [st];rw [ih];conv=>rhs;unfold walk
   rw [if_pos cd,Yk,Vu];rfl
  ·rw [zhz (n:=(l.length:Int)) (m:=(r.length:Int)) (r:=false) (by rw [Zc]) (by rw [Zc]) (decide_eq_false (by omega))];refine⟨i,j,c,?_⟩
   unfold walk;rw [if_neg cd,Kp,Qv]
abbrev zeo:List (Nat×(List D->Option W)):=[(40,zfb),(67,zbb),(83,zjl)]
def zaz:List D->Option W:=run (tab zeo) zcq 8
theorem ok_summed (h40:Γ 40=zfb) (h67:Γ 67=zbb) (h83:Γ 83=zjl):∀ ds w,ds.length=2->zaz ds=some w->run Γ zcq 8 ds=some w:=fun ds w _ h=>zay zeo (by
 intro p hp;rcases Zf.mp hp with rfl | hp;exact h40
 rcases Zf.mp hp with rfl | hp;exact h67
 rcases Zn.mp hp with rfl;exact h83) (by decide) ds w h
theorem znz {σ:List D->Option W} (h40:Γ 40=σ) {L1 L2' S1 S2 O:List D} {i j:Int} {c:Option B} (s1:σ [.lst L1]=some (.new S1)) (s2:σ [.lst L2']=some (.new S2)) (f1:lfL S1=true) (f2:lfL S2=true)
  (w:zeg (evB Γ zfn) (exs Γ zda) [some (.sh (.lst L1)),some (.sh (.lst L2')),some (.ow S1),some (.ow S2),some (.ow []),some (.sh (.int 0)),some (.sh (.int 0)),none]=some (.nx [some (.sh (.lst L1)),some (.sh (.lst L2')),some (.ow S1),some (.ow S2),some (.ow O),some (.sh (.int i)),some (.sh (.int j)),c])) :
  run Γ zcq 8 [.lst L1,.lst L2']=some (.new O):=by
 show run Γ (.cons (.asg 2 (.call 40 (.cons (.var 0) .nil))) (.cons (.asg 3 (.call 40 (.cons (.var 1) .nil))) (.cons (.asg 4 (.lst .nil)) (.cons (.asg 5 (.int 0)) (.cons (.asg 6 (.int 0)) (.cons (.whl zfn zda) (.cons (.retV 4) .nil))))))) 8 _=_;generalize zfn=cd at *;generalize zda=bd at *;walk_at "evh"
theorem zoa {l r:List (Rat×Rat)} (nl:l.Nodup) (nr:r.Nodup) (l2:2<=l.length) (r2:2<=r.length) (zl:SzL 165 l) (zr:SzL 165 r) (ll:l.length<=400) (rl:r.length<=400):zaz [.lst (l.map stD),.lst (r.map stD)]=some (.new ((sumL l r).map stD)):=by
 unfold zaz;generalize hΓ:tab zeo=Γ;have h40:Γ 40=zfb:=by rw [<- hΓ];rfl
 have h67:Γ 67=zbb:=by rw [<- hΓ];rfl
 have h83:Γ 83=zjl:=by rw [<- hΓ];rfl
 obtain⟨i',j',c',w⟩:=zly h67 h83 nl nr l2 r2 zl zr ll rl (l.length+r.length) 0 0 [] none (Yi _) (Yi _) (by omega) (by rw [Kj];omega)
 have:=znz h40 (ziy nl l2 (by omega) zl) (ziy nr r2 (by omega) zr) (zdi _) (zdi _) (zcd w)
 rw [this];show _=some (W.new (((Mg.sumW l r).map (at2 (rnd l) (rnd r))).map stD));rw [Wb,List.nil_append];rfl
end
open Sf Mg
structure Ov (d:Int) (B:Nat) (q:Rat×Rat):Prop where
 ex:∃ x y:Int,q.1=Rat.divInt x d/\q.2=Rat.divInt y d/\x.natAbs<2^B/\y.natAbs<2^B
theorem zrw {a b c d:Int} (hb:b≠0) (hd:d≠0):Rat.divInt a b+Rat.divInt c d=Rat.divInt (a*d+c*b) (b*d):=Qg _ _ hb hd
theorem B8 {a b:Int} {m n k:Nat} (h:a.natAbs<2^m) (g:b.natAbs<2^n) (hk:m+n<=k):(a*b).natAbs<2^k:=by
 rw [Ym];exact Zd (Bw h g) (Gc hk)
theorem zxt {a b:Int} {k:Nat} (h:a.natAbs<2^k) (g:b.natAbs<2^k):(a+b).natAbs<2^(k+1):=Yx (Kz a b) (by rw [Ju,Vi];exact Up h g)
theorem pw_sub {a b:Int} {k:Nat} (h:a.natAbs<2^k) (g:b.natAbs<2^k):(a-b).natAbs<2^(k+1):=Yx (Int.natAbs_sub_le a b) (by rw [Ju,Vi];exact Up h g)
theorem Ov.pl {d e:Int} {B C m n k:Nat} {u v:Rat×Rat} (hu:Ov d B u) (hv:Ov e C v) (hd:d≠0) (he:e≠0) (bd:d.natAbs<2^m) (be:e.natAbs<2^n) (h1:B+n<=k) (h2:C+m<=k):Ov (d*e) (k+1) (pl u v):=by
 obtain⟨x,y,e1,e2,b1,b2⟩:=hu.ex
 obtain⟨z,w,e3,e4,b3,b4⟩:=hv.ex
 refine⟨x*e+z*d,y*e+w*d,?_,?_,zxt (B8 b1 be h1) (B8 b3 bd h2),zxt (B8 b2 be h1) (B8 b4 bd h2)⟩
 ·show u.1+v.1=_;rw [e1,e3,zrw hd he]
 ·show u.2+v.2=_;rw [e2,e4,zrw hd he]
theorem zxq (x:Rat):x=Rat.divInt x.num (x.den:Int):=(Yd x).symm
theorem zry (x:Rat):(x.den:Int)≠0:=by have:=x.den_nz;omega
theorem Ov.sc {d:Int} {B a b k:Nat} {q:Rat×Rat} {x:Rat} (hq:Ov d B q) (hx:Sy a b x) (h:B+a<=k):Ov (d*(x.den:Int)) k (sc x q):=by
 obtain⟨z,w,e1,e2,b1,b2⟩:=hq.ex
 refine⟨z*x.num,w*x.num,?_,?_,B8 b1 hx.t h,B8 b2 hx.t h⟩
 ·show q.1*x=_;rw [e1];conv=>lhs;rw [zxq x];rw [Wg]
 ·show q.2*x=_;rw [e2];conv=>lhs;rw [zxq x];rw [Wg]
theorem Ov.xr {d:Int} {B:Nat} {p q:Rat×Rat} (hp:Ov d B p) (hq:Ov d B q):∃ c:Int,Xr p q=Rat.divInt c (d*d)/\c.natAbs<=2^(B+B+1):=by
 obtain⟨x,y,e1,e2,b1,b2⟩:=hp.ex
 obtain⟨u,v,e3,e4,b3,b4⟩:=hq.ex
 refine⟨x*v-u*y,?_,Ja (pw_sub (B8 b1 b4 (Zj _)) (B8 b3 b2 (Zj _)))⟩
 unfold Xr;rw [e1,e2,e3,e4,Wg,Wg];rw [Y6,Y6,Y6,Yw,Yw,Yw,K6];grind
theorem zbf {l:List (Rat×Rat)} {i:Nat} (h:i<l.length):at0 l i∈l:=by
 unfold at0;rw [Zk,Ze h];exact Ka h
theorem ov_sX {d:Int} {B:Nat} {l:List (Rat×Rat)} (h:∀ q∈l,Ov d B q):∀ k,k<=l.length->∃ c:Int,sX l k=Rat.divInt c (d*d)/\c.natAbs<=k*2^(B+B+1)
 | 0,_=>⟨0,by rw [Rat.zero_divInt];rfl,by simp⟩
 | k+1,hk=>by
  obtain⟨c,e,b⟩:=ov_sX h k (by omega)
  obtain⟨c2,e2,b2⟩:=(h _ (zbf (show k<l.length by omega))).xr (h _ (zbf (show (k+1)%l.length<l.length from Qc _ (by omega))))
  refine⟨c+c2,?_,Ya (Kz c c2) (by rw [Nat.add_mul,Nat.one_mul];exact Nat.add_le_add b b2)⟩
  show sX l k+Xr (at0 l k) (at0 l ((k+1)%l.length))=_;rw [e,e2,Y6,Y6,Y6,Yw,Yw,Yw,Rat.intCast_add];grind
theorem ov_sz {d:Int} {B m n:Nat} {l:List (Rat×Rat)} (h:∀ q∈l,Ov d B q) (hd:d≠0) (bd:d.natAbs<2^m) (hl:l.length<=400) (h1:B+B+10<=n) (h2:m+m<=n):∀ k,k<=l.length->Sz n (sX l k):=fun k hk=>by
 obtain⟨c,e,b⟩:=ov_sX h k hk
 rw [e];refine zeq (Zz hd hd) (Yx b ?_) (B8 bd bd h2);refine Zd (Yx (Nat.mul_le_mul_right _ (show k<=400 by omega)) (Nat.mul_lt_mul_of_pos_right (show 400<2^9 by decide) (Ug _))) ?_;rw [<- Nat.pow_add];exact Gc (by omega)
def SyL (a b:Nat) (l:List (Rat×Rat)):Prop:=∀ q∈l,Sy a b q.1/\Sy a b q.2
theorem SyL.sz {a b n:Nat} {l:List (Rat×Rat)} (h:SyL a b l) (ha:a<=n) (hb:b<=n):SzL n l:=fun q hq=>⟨(h q hq).1.sz ha hb,(h q hq).2.sz ha hb⟩
theorem SyL.push {a b c d k:Nat} {l:List (Rat×Rat)} {p:Rat×Rat} (hl:SyL a b l) (hp:Sy c d p.1/\Sy c d p.2) (h1:a+d<=k) (h2:c+b<=k):SyL (k+1) (b+d) (l.map (pshR p)):=fun q hq=>by
 obtain⟨u,hu,e⟩:=Zv.mp hq
 rw [<- e];exact⟨(hl u hu).1.add hp.1 h1 h2,(hl u hu).2.add hp.2 h1 h2⟩
theorem SyL.size {a b c d:Nat} {l:List (Rat×Rat)} {x:Rat} (hl:SyL a b l) (hx:Sy c d x):SyL (a+c) (b+d) (l.map (sc x)):=fun q hq=>by
 obtain⟨u,hu,e⟩:=Zv.mp hq
 rw [<- e];exact⟨(hl u hu).1.mul hx,(hl u hu).2.mul hx⟩
theorem ShapeBy.ov {m:Nat} {l:List (Rat×Rat)} {ps:List (Int×Int)} {b f s:Int} (h:ShapeBy m l ps b f s):(∀ q∈l,Ov s 62 q)/\s≠0/\s.natAbs<2^30/\SyL 62 30 l:=by
 obtain⟨b0,b1,f0,f1,s0,s1⟩:=And.intro h.b0 (And.intro h.b1 (And.intro h.f0 (And.intro h.f1 (And.intro h.s0 h.s1))))
 have e62:(2:Nat)^62=4611686018427387904:=by decide
 have sb:s.natAbs<2^30:=d30 (by omega) s1;have key:∀ q∈l,∃ x y:Int,q.1=Rat.divInt x s/\q.2=Rat.divInt y s/\x.natAbs<2^62/\y.natAbs<2^62:=fun q hq=>by
  rw [h.eq] at hq;obtain⟨p,hp,e⟩:=Zv.mp hq
  subst e;have hR:Bd 2000 p:=h.pts.bd p (sortP_mem.mp (zuv p hp));have key:∀ x:Int,-2000<=x->x<=2000 -> -2000000000000<=x*b/\x*b<=2000000000000:=fun x h1 h2=>by
   have a1:=W7 h2 (show 0<=b by omega);have a2:=W7 h1 (show 0<=b by omega);have a3:(2000:Int)*b<=2000000000000:=by omega
   have a4 : -2000000000000<=(-2000:Int)*b:=by omega
   omega
  have k1:=key p.1 hR.a hR.b;have k2:=key p.2 hR.c hR.d;exact⟨p.1*b+f,p.2*b-2*f,rfl,rfl,by rw [e62];omega,by rw [e62];omega⟩
 refine⟨fun q hq=>⟨key q hq⟩,by omega,sb,fun q hq=>?_⟩
 obtain⟨x,y,e1,e2,b1',b2'⟩:=key q hq
 exact⟨by rw [e1];exact zir (by omega) b1' sb,by rw [e2];exact zir (by omega) b2' sb⟩
theorem zxu (p:Rat×Rat):pshR p=pl p:=by
 funext q
 unfold pshR pl;exact Z5 (Yo _ _) (Yo _ _)
open Sf Mg
section
variable {Γ:Nat->List D->Option W}
theorem zsb {l:List (Rat×Rat)} (ln:l.length<=200) (l1:1<=l.length) (zl:SzL 300 l) (ar:∀ k,k<=l.length->Sz 410 (sX l k)):Bj [.lst (l.map stD)]=some (.val (fr (Ar l))):=
 zli (fun i hi=>(ar i hi).mono (by decide)) (fun i hi=>zl _ (zbf hi)) l1 ln
end
open Sf Mg
theorem eq1 (l:List (Rat×Rat)):cmpD .eq (.lst (l.map stD)) (.lst (l.map stD))=some true/\cmpD .ne (.lst (l.map stD)) (.lst (l.map stD))=some false:=by
 have d:=zju l;have e:eqO (.lst (l.map stD)) (.lst (l.map stD))=some true:=by
  show (if (dOkL 49 (l.map stD) && dOkL 49 (l.map stD))=true then some (eqL (l.map stD) (l.map stD)) else none)=_;rw [d,if_pos (show (true && true)=true from rfl),eqL_self 49 _ d]
 exact⟨e,by show (eqO _ _).map not=_;rw [e];rfl⟩
theorem su_int {l r:List (Rat×Rat)} (hl:IsShp l) (hr:IsShp r) (zl:SzL 165 l) (zr:SzL 165 r) (ll:l.length<=400) (rl:r.length<=400):zaz [.lst (l.map stD),.lst (r.map stD)]=some (.new ((sumL l r).map stD)):=
 zoa (nodup hl) (nodup hr) (by have:=hl.three;omega) (by have:=hr.three;omega) zl zr ll rl
namespace Lb
open DL
abbrev Pt:=Int×Int
def oI (a b c:Pt):Int:=(b.1-a.1)*(c.2-a.2)-(b.2-a.2)*(c.1-a.1)
theorem zyc (a b c:Pt):oI a b c=oI b c a:=by unfold oI;grind
def Tri:List Pt->Prop
 | []=>True
 | x::l=>(l.Pairwise fun y z=>0<oI x y z)/\Tri l
theorem Tri.get:∀ {l:List Pt},Tri l->∀ {i j k:Nat} {a b c:Pt},i<j->j<k->l[i]? = some a->l[j]? = some b->l[k]? = some c->0<oI a b c
 | [],_,_,_,_,_,_,_,_,_,h,_,_=>by simp at h
 | x::l,h,i,j,k,a,b,c,hij,hjk,ha,hb,hc=>by
  obtain⟨j,rfl⟩:∃ m,j=m+1:=⟨j-1,by omega⟩
  obtain⟨k,rfl⟩:∃ m,k=m+1:=⟨k-1,by omega⟩
  rw [Y8] at hb hc;cases i with
  | zero=>
   rw [Qu] at ha;cases ha;obtain⟨hj,e1⟩:=Zm.mp hb
   obtain⟨hk,e2⟩:=Zm.mp hc
   rw [<- e1,<- e2];exact Qn.mp h.1 j k hj hk (by omega)
  | succ i=>
   rw [Y8] at ha;exact Tri.get h.2 (by omega) (by omega) ha hb hc
theorem Tri.conv {l:List Pt} (h:Tri l) {k:Nat} {a b c:Pt} (ha:l[(k+l.length-1)%l.length]? = some a) (hb:l[k]? = some b) (hc:c∈l) (na:c≠a) (nb:c≠b):0<oI a b c:=by
 obtain⟨m,hm,e⟩:=Kk hc
 have gc:l[m]? = some c:=by rw [<- e];exact Ze hm
 have hk:=(Zm.mp hb).1;have mk:m≠k:=fun z=>by rw [z,hb] at gc;exact nb (Z3 gc).symm
 rcases Wj k with z | z
 ·subst z;rw [Zo (by omega)] at ha;have mn:m≠0+l.length-1:=fun z=>by rw [z,ha] at gc;exact na (Z3 gc).symm
  rw [zyc];exact h.get (show 0<m by omega) (show m<0+l.length-1 by omega) hb gc ha
 ·rw [show k+l.length-1=(k-1)+l.length by omega,Y7,Zo (by omega)] at ha;have mn:m≠k-1:=fun z=>by rw [z,ha] at gc;exact na (Z3 gc).symm
  rcases Yg m (k-1) with q | q
  ·rw [<- zyc];exact h.get q (show k-1<k by omega) gc ha hb
  ·exact h.get (show k-1<k by omega) (show k<m by omega) ha hb gc
theorem oI_1 (a b:Pt):oI a a b=0:=by unfold oI;grind
theorem oI_2 (a b:Pt):oI a b b=0:=by unfold oI;grind
theorem oI_3 (a b:Pt):oI a b a=0:=by unfold oI;grind
theorem Tri.nodup {l:List Pt} (h:Tri l) (h3:3<=l.length):l.Nodup:=by
 refine Uh.mpr (Qn.mpr fun i j hi hj hij e=>?_);have g:∀ m (hm:m<l.length),l[m]? = some l[m]:=fun m hm=>Ze hm
 rcases Yg (j+1) l.length with q | q
 ·have:=h.get hij (show j<j+1 by omega) (g i hi) (g j hj) (g (j+1) q)
  rw [e,oI_1] at this;exact absurd this (Int.lt_irrefl _)
 ·rcases Yg (i+1) j with q2 | q2
  ·have:=h.get (show i<i+1 by omega) q2 (g i hi) (g (i+1) (by omega)) (g j hj)
   rw [e,oI_3] at this;exact absurd this (Int.lt_irrefl _)
  ·have:=h.get (show i-1<i by omega) hij (g (i-1) (by omega)) (g i hi) (g j hj)
   rw [e,oI_2] at this;exact absurd this (Int.lt_irrefl _)
theorem Tri.app:∀ {l m:List Pt},Tri l->Tri m->(l.Pairwise fun x y=>∀ z∈m,0<oI x y z)->(∀ x∈l,m.Pairwise fun y z=>0<oI x y z)->Tri (l++m)
 | [],m,_,h,_,_=>h
 | x::l,m,h1,h2,h3,h4=>by
  obtain⟨p1,p2⟩:=Zt.mp h3
  exact⟨Kg.mpr ⟨h1.1,h4 x (.head _),fun y hy z hz=>p1 y hy z hz⟩,Tri.app h1.2 h2 p2 fun y hy=>h4 y (.tail _ hy)⟩
def low2 (x:Int):Pt:=(x,x*x)
def high2 (t x:Int):Pt:=(x,t-x*x)
theorem o_lll (a b c:Int):oI (low2 a) (low2 b) (low2 c)=(b-a)*((c-a)*(c-b)):=by unfold oI low2;grind
theorem o_hhh (t a b c:Int):oI (high2 t a) (high2 t b) (high2 t c)=(a-b)*((a-c)*(b-c)):=by unfold oI high2;grind
theorem o_llh (t a b h:Int):oI (low2 a) (low2 b) (high2 t h)=(b-a)*(t-(h*h+(a+b)*h-a*b)):=by unfold oI low2 high2;grind
theorem o_lhh (t a g h:Int):oI (low2 a) (high2 t h) (high2 t g)=(h-g)*(t-(a*a+(g+h)*a-g*h)):=by unfold oI low2 high2;grind
theorem zph:∀ {xs:List Int},xs.Pairwise (· < ·)->Tri (xs.map low2)
 | [],_=>True.intro
 | x::xs,h=>by
  obtain⟨h1,h2⟩:=Zt.mp h
  refine⟨Kv.mpr ?_,zph h2⟩
  refine We (fun {y z} hy hz q=>?_) h2;have:=h1 y hy
  have:=h1 z hz
  rw [o_lll];exact Wf (by omega) (Wf (by omega) (by omega))
theorem zlx {t:Int}:∀ {xs:List Int},xs.Pairwise (· > ·)->Tri (xs.map (high2 t))
 | [],_=>True.intro
 | x::xs,h=>by
  obtain⟨h1,h2⟩:=Zt.mp h
  refine⟨Kv.mpr ?_,zlx h2⟩
  refine We (fun {y z} hy hz q=>?_) h2;have:=h1 y hy
  have:=h1 z hz
  rw [o_hhh];exact Wf (by omega) (Wf (by omega) (by omega))
theorem cube {m h a b:Int} (h1 : -m<=h) (h2:h<=m) (a1 : -m<=a) (a2:a<=m) (b1 : -m<=b) (b2:b<=m):h*h+(a+b)*h-a*b<=2*(m*m):=by
 have p1:=Yb (show 0<=m+h by omega) (Yb (show 0<=m-a by omega) (show 0<=m-b by omega));have p2:=Yb (show 0<=m-h by omega) (Yb (show 0<=m+a by omega) (show 0<=m+b by omega));have p3:=Yb (show 0<=2*m by omega) (Yb (show 0<=m-h by omega) (show 0<=m+h by omega));have e:2*m*(2*(m*m)-(h*h+(a+b)*h-a*b))=(m+h)*((m-a)*(m-b))+(m-h)*((m+a)*(m+b))+2*m*((m-h)*(m+h)):=by grind
 by_cases z:m=0
 ·have:h=0:=by omega
  have:a=0:=by omega
  have:b=0:=by omega
  subst_vars
  decide
 ·refine Q7.mp fun q=>?_;have:=Int.mul_neg_of_pos_of_neg (show 0<2*m by omega) (show 2*(m*m)-(h*h+(a+b)*h-a*b)<0 by omega)
  omega
theorem tri_bows {t m:Int} {xs ys:List Int} (hx:xs.Pairwise (· < ·)) (hy:ys.Pairwise (· > ·)) (bx:∀ x∈xs,-m<=x/\x<=m) (by_:∀ y∈ys,-m<=y/\y<=m) (ht:2*(m*m)<t):Tri (xs.map low2++ys.map (high2 t)):=by
 refine Tri.app (zph hx) (zlx hy) (Kv.mpr (We (fun {a b} ha hb q z hz=>?_) hx)) fun p hp=>Kv.mpr ?_
 ·obtain⟨h,hh,e⟩:=Zv.mp hz
  rw [<- e,o_llh];have:=cube (by_ h hh).1 (by_ h hh).2 (bx a ha).1 (bx a ha).2 (bx b hb).1 (bx b hb).2
  exact Wf (by omega) (by omega)
 ·obtain⟨a,ha,e⟩:=Zv.mp hp
  refine We (fun {h g} hh hg q=>?_) hy;rw [<- e,o_lhh];have:=cube (bx a ha).1 (bx a ha).2 (by_ g hg).1 (by_ g hg).2 (by_ h hh).1 (by_ h hh).2
  exact Wf (by omega) (by omega)
def crP (u v:Pt):Int:=u.1*v.2-u.2*v.1
theorem tri_box {u v:Pt} (h:0<crP u v):Tri [(0,0),u,(u.1+v.1,u.2+v.2),v]:=by
 unfold crP at h;simp only [Tri,oI,Zt,Zf,Yj,or_false,forall_eq_or_imp,forall_eq,List.Pairwise.nil,and_true,true_and,false_implies,implies_true];refine⟨⟨⟨?_,?_⟩,?_⟩,?_⟩ <;> grind
theorem tri_3 {u v:Pt} (h:0<crP u v):Tri [(0,0),u,v]:=by
 unfold crP at h;simp only [Tri,oI,Zt,Zf,Yj,or_false,forall_eq_or_imp,forall_eq,List.Pairwise.nil,and_true,true_and,false_implies,implies_true];grind
theorem tri_6 {u v:Pt} (h:0<crP u v):Tri [(0,0),u,(u.1+(u.1+v.1),u.2+(u.2+v.2)),(2*(u.1+v.1),2*(u.2+v.2)),(v.1+(u.1+v.1),v.2+(u.2+v.2)),v]:=by
 unfold crP at h;simp only [Tri,oI,Zt,Zf,Yj,or_false,forall_eq_or_imp,forall_eq,List.Pairwise.nil,and_true,true_and,false_implies,implies_true];refine⟨⟨⟨?_,?_,?_,?_⟩,⟨?_,?_,?_⟩,⟨?_,?_⟩,?_⟩,⟨⟨?_,?_,?_⟩,⟨?_,?_⟩,?_⟩,⟨⟨?_,?_⟩,?_⟩,?_⟩ <;> grind
def spot2 (b f g s:Int) (p:Pt):Rat×Rat:=(Rat.divInt (p.1*b+f) s,Rat.divInt (p.2*b+g) s)
theorem zfl (x y s:Int):Rat.divInt x s-Rat.divInt y s=((x-y:Int):Rat)*(s:Rat)⁻¹:=by
 rw [Y6,Y6,Yw,Yw,K6];grind
theorem s_inv {s:Int} (hs:1<=s):0<(s:Rat)⁻¹:=Q5.mpr (by have:((0:Int):Rat)<(s:Rat):=Q0.mpr (by omega);exact this)
theorem zvd {b f g s:Int} (hb:1<=b) (hs:1<=s) {a c d:Pt} (h:0<oI a c d):0<oR (spot2 b f g s a) (spot2 b f g s c) (spot2 b f g s d):=by
 unfold oR spot2;dsimp only;rw [zfl,zfl,zfl,zfl];have k:=s_inv hs;generalize (s:Rat)⁻¹=t at *;have e:(((c.1*b+f)-(a.1*b+f):Int):Rat)*t*((((d.2*b+g)-(a.2*b+g):Int):Rat)*t)-(((c.2*b+g)-(a.2*b+g):Int):Rat)*t*((((d.1*b+f)-(a.1*b+f):Int):Rat)*t)=t*t*(((b*b*oI a c d:Int)):Rat):=by
  unfold oI;simp only [K6,Wq,Rat.intCast_add];grind
 rw [e];have q:(0:Int)<b*b*oI a c d:=Wf (Wf (by omega) (by omega)) h;exact Z2 (Z2 k k) (Q0.mpr q)
def ltP (a b:Pt):Prop:=a.1<b.1\/(a.1=b.1/\a.2<b.2)
theorem zvk {b f g s:Int} (hb:1<=b) (hs:1<=s) {p q:Pt} (h:ltP p q):ltR (spot2 b f g s p) (spot2 b f g s q):=by
 have k:=s_inv hs;have up:∀ x y c:Int,x<y->Rat.divInt (x*b+c) s<Rat.divInt (y*b+c) s:=fun x y c z=>by
  have e:=zfl (y*b+c) (x*b+c) s;have w:(0:Int)<(y*b+c)-(x*b+c):=by
   have:=Wf (show 0<y-x by omega) (show 0<b by omega)
   rw [Int.sub_mul] at this;omega
  have w2:(0:Rat)<(((y*b+c)-(x*b+c):Int):Rat):=Q0.mpr w;have:=Z2 w2 k
  grind
 unfold ltR spot2;rcases h with h | ⟨h1,h2⟩
 ·exact .inl (up _ _ _ h)
 ·exact .inr ⟨by rw [h1],up _ _ _ h2⟩
structure LoP (R:List Pt) (k:Nat):Prop where
 lt:k<R.length
 low:∀ j p q,j≠k->R[k]? = some p->R[j]? = some q->ltP p q
theorem shp2 {R:List Pt} {k:Nat} (h:Tri R) (h3:3<=R.length) (hk:LoP R k) {b f g s:Int} (hb:1<=b) (hs:1<=s):IsShp ((rot R k).map (spot2 b f g s)):=by
 rw [zqb];refine IsShp.of_rot (by rw [Zc];exact h3) (fun k a b' c ha hb' hc na nb=>?_) ⟨by rw [Zc];exact hk.lt,fun j p q hj hp hq=>?_⟩
 ·rw [Zi,Zc] at ha;rw [Zi] at hb';obtain⟨pa,ea,rfl⟩:=Zb.mp ha
  obtain⟨pb,eb,rfl⟩:=Zb.mp hb'
  obtain⟨pc,hpc,rfl⟩:=Zv.mp hc
  exact zvd hb hs (h.conv ea eb hpc (fun z=>na (by rw [z])) fun z=>nb (by rw [z]))
 ·rw [Zi] at hp hq;obtain⟨p',e1,rfl⟩:=Zb.mp hp
  obtain⟨q',e2,rfl⟩:=Zb.mp hq
  exact zvk hb hs (hk.low j p' q' hj e1 e2)
theorem ybw (a b:Pt):ltP a b\/a=b\/ltP b a:=by
 unfold ltP;rcases V6 a.1 b.1 with h | h | h
 ·exact .inl (.inl h)
 ·rcases V6 a.2 b.2 with k | k | k
  ·exact .inl (.inr ⟨h,k⟩)
  ·exact .inr (.inl (Z5 h k))
  ·exact .inr (.inr (.inr ⟨h.symm,k⟩))
 ·exact .inr (.inr (.inl h))
theorem ltP_trans {a b c:Pt} (h1:ltP a b) (h2:ltP b c):ltP a c:=by
 unfold ltP at *;omega
theorem ltP_irr (a:Pt):¬ ltP a a:=by unfold ltP;omega
theorem lo_ex:∀ {R:List Pt},R.Nodup->0<R.length->∃ k,LoP R k
 | [],_,h=>absurd h (by decide)
 | [p],_,_=>⟨0,Jt _,fun j x y hj _ hy=>by
  cases j with
  | zero=>exact absurd rfl hj
  | succ j=>simp at hy⟩
 | p::q::R,nd,_=>by
  obtain⟨n1,n2⟩:=Wn.mp nd
  obtain⟨k,hk⟩:=lo_ex n2 (Jt _)
  have gk:(q::R)[k]? = some ((q::R)[k]'hk.lt):=Ze hk.lt;have mem:(q::R)[k]'hk.lt∈q::R:=Ka hk.lt;rcases ybw p ((q::R)[k]'hk.lt) with h | h | h
  ·refine⟨0,Jt _,fun j x y hj hx hy=>?_⟩
   cases j with
   | zero=>exact absurd rfl hj
   | succ j=>
    rw [Qu] at hx;rw [Y8] at hy;cases hx;by_cases e:j=k
    ·subst e;rw [gk] at hy;cases hy;exact h
    ·exact ltP_trans h (hk.low j _ _ e gk hy)
  ·rw [h] at n1;exact absurd mem n1
  ·refine⟨k+1,Nat.succ_lt_succ hk.lt,fun j x y hj hx hy=>?_⟩
   rw [Y8,gk] at hx;cases hx;cases j with
   | zero=>rw [Qu] at hy;cases hy;exact h
   | succ j=>
    rw [Y8] at hy;exact hk.low j _ _ (by omega) gk hy
end Lb
open Sf Mg
section
variable {Γ:Nat->List D->Option W}
abbrev q60:Int:=1000000000000000000000000000000000000000000000000000000000007
def zck:List D->Option W:=run (tab []) Br 6
theorem ok_law_numbers:∀ ds w,ds.length=2->zck ds=some w->run Γ Br 6 ds=some w:=fun ds w _ h=>zay [] (fun p hp=>by cases hp) (by decide) ds w h
abbrev zbd:Ss:=(.cons (.asg 4 (.int 0)) (.cons (.iff (.cmp .gt (.bi .len (.cons (.var 0) .nil)) (.int 0)) (.cons (.asg 4 (.bin .mod (.ix (.var 0) (.bin .mod (.var 2) (.bi .min (.cons (.bi .len (.cons (.var 0) .nil)) (.cons (.int 63) .nil))))) (.bin .add (.bin .pow (.int 10) (.int 60)) (.int 7)))) .nil) .nil) (.cons (.asg 5 (.bin .mod (.var 2) (.var 1))) (.cons (.seti 3 (.var 5) (.bin .mod (.bin .add (.bin .add (.bin .mul (.ix (.var 3) (.var 5)) (.int 48271)) (.var 4)) (.bin .mul (.var 2) (.var 2))) (.bin .add (.bin .pow (.int 10) (.int 60)) (.int 7)))) .nil))))
theorem zqs {NS HS:List D} {L m k c x:Int} {j:Nat} {c4 c5:Option B} (hL:(NS.length:Int)=L) (h0:(0<L)=True) (h63:(63<L)=False) (hl0:L≠0) (hm:m≠0) (m0:0<m)
  (ha:L2.atI NS (k%L)=some (.int c)) (hx:L2.atI HS (k%m)=some (.int x)) (hj:L2.ixN HS.length (k%m)=some j) (o1:Gp x 48271=true) (o2:Gp k k=true) :
  exs Γ zbd [some (.sh (.lst NS)),some (.sh (.int m)),some (.sh (.int k)),some (.ow HS),c4,c5]=some (.nx [some (.sh (.lst NS)),some (.sh (.int m)),some (.sh (.int k)),some (.ow (HS.set j (.int ((x*48271+c%q60+k*k)%q60)))),some (.sh (.int (c%q60))),some (.sh (.int (k%m)))]):=by
 have L0:0<L:=of_eq_true h0;have e1:=B9 (a:=k) L0;have e2:=B9 (a:=k) m0;have z1:(L=0)=False:=eq_false hl0;have z2:(m=0)=False:=eq_false hm;have e3:∀ y:Int,y.fmod 1000000000000000000000000000000000000000000000000000000000007=y%1000000000000000000000000000000000000000000000000000000000007:=fun y=>B9 (by decide)
 have z3:((1000000000000000000000000000000000000000000000000000000000007:Int)=0)=False:=eq_false (by decide);unfold zbd q60;clear hl0 hm m0 L0;walk_at "evh"
theorem zqt {HS:List D} {m k x:Int} {j:Nat} {c4 c5:Option B} (hm:m≠0) (m0:0<m) (hx:L2.atI HS (k%m)=some (.int x)) (hj:L2.ixN HS.length (k%m)=some j) (o1:Gp x 48271=true) (o2:Gp k k=true) :
  exs Γ zbd [some (.sh (.lst [])),some (.sh (.int m)),some (.sh (.int k)),some (.ow HS),c4,c5]=some (.nx [some (.sh (.lst [])),some (.sh (.int m)),some (.sh (.int k)),some (.ow (HS.set j (.int ((x*48271+0+k*k)%q60)))),some (.sh (.int 0)),some (.sh (.int (k%m)))]):=by
 have e2:=B9 (a:=k) m0;have z2:(m=0)=False:=eq_false hm;have e3:∀ y:Int,y.fmod 1000000000000000000000000000000000000000000000000000000000007=y%1000000000000000000000000000000000000000000000000000000000007:=fun y=>B9 (by decide)
 have z3:((1000000000000000000000000000000000000000000000000000000000007:Int)=0)=False:=eq_false (by decide);have l0:((([]:List D).length:Nat):Int)=0:=rfl;unfold zbd q60;clear hm m0;walk_at "evh"
abbrev zia:E:=(.comp (.int 0) (.name 1) (.range1 (.var 1)) 2 [] .non)
theorem ybm {NS Z O:List D} {m N L:Int} {c2 c4 c5:Option B} (hL:(NS.length:Int)=L) (h63:(63<L)=False) (hN:(if m<L then L else m)=N) (hr:(-4611686018427387904<=N/\N<4611686018427387904)=True)
  (hc:ev Γ zia [some (.lst NS),some (.int m),none,none,none,none]=some (.new Z)) (lz:lfL Z=true)
  (hf:forN (Be (.name 2)) (exs Γ zbd) (Gx 0 N.toNat) [some (.sh (.lst NS)),some (.sh (.int m)),none,some (.ow Z),none,none]=some (.nx [some (.sh (.lst NS)),some (.sh (.int m)),c2,some (.ow O),c4,c5])) :
  run Γ Br 6 [.lst NS,.int m]=some (.new O):=by
 show run Γ (.cons (.asg 3 zia) (.cons (.frr (.name 2) (.range1 (.bi .max (.cons (.var 1) (.cons (.bi .min (.cons (.bi .len (.cons (.var 0) .nil)) (.cons (.int 63) .nil))) .nil)))) zbd) (.cons (.retV 3) .nil))) 6 _=_;generalize zia=cp at *;generalize zbd=bd at *;walk_at "evh"
theorem zqe (m:Nat):(List.replicate m (0:Int)).map D.int=(List.range m).map fun _=>D.int 0:=by
 rw [List.map_replicate,List.map_const',Qh]
theorem yas (m:Nat):Gx 0 ((m:Int).toNat)=(List.range m).map fun (k:Nat)=>D.int (0+(k:Int)):=by
 rw [Wm];rfl
theorem ycw {NS:D} {m:Nat} (h:m<=1000):evW Γ (.range1 (.var 1)) [some NS,some (.int (m:Int)),none,none,none,none]=some ((List.range m).map fun (k:Nat)=>D.int (0+(k:Int))):=by
 have e:evd Γ (.var 1) [some NS,some (.int (m:Int)),none,none,none,none]=some (.int (m:Int)):=by walk_at "evh"
 rw [zgv,e,Yy,zza,Yy,if_pos ⟨by omega,by omega⟩,yas]
theorem zwh {NS:D} {m:Nat} (h:m<=1000):ev Γ zia [some NS,some (.int (m:Int)),none,none,none,none]=some (.new ((List.replicate m (0:Int)).map D.int)):=by
 rw [zqe];have sz:(1000:Nat)<=PySem.sizeLine:=by decide
 refine zaq (l:=List.range m) (g:=fun (k:Nat)=>D.int (0+(k:Int))) (h:=fun _=>D.int 0) (ycw h) (by rw [Qh];omega) rfl (fun x _=>?_);clear h sz;generalize D.int (0+(x:Int))=d;generalize D.int (m:Int)=d2;walk_at "evh"
theorem zhn:∀ l:List Int,lfL (l.map D.int)=true
 | []=>rfl
 | _::l=>zhn l
theorem zaj {hs:List Int} {j:Nat} (h:j<hs.length):L2.atI (hs.map D.int) (j:Int)=some (.int hs[j]):=znq (by rw [Zi,Ze h];rfl)
theorem ixN_of {n j:Nat} (h:j<n):L2.ixN n (j:Int)=some j:=by
 unfold L2.ixN;rw [if_pos (by omega)];simp [h]
theorem zkv (ns:List Int) (hn:ns.length<=63) (m:Nat) (hm:1<=m) (hm2:m<=40):∃ hs:List Int,hs.length=m/\(∀ h∈hs,0<=h/\h<q60)/\zck [.lst (ns.map D.int),.int (m:Int)]=some (.new (hs.map D.int)):=by
 have key:∀ N:Nat,N<=100->∃ ρ',forN (Be (.name 2)) (exs (tab []) zbd) (Gx 0 N) [some (.sh (.lst (ns.map D.int))),some (.sh (.int (m:Int))),none,some (.ow ((List.replicate m (0:Int)).map D.int)),none,none]=some (.nx ρ') /\
   ∃ (hs:List Int) (c2 c4 c5:Option B),(hs.length=m/\∀ h∈hs,0<=h/\h<q60)/\ρ'=[some (.sh (.lst (ns.map D.int))),some (.sh (.int (m:Int))),c2,some (.ow (hs.map D.int)),c4,c5]:=fun N hN=>by
  refine znc (I:=fun ρ=>∃ (hs:List Int) (c2 c4 c5:Option B),(hs.length=m/\∀ h∈hs,0<=h/\h<q60)/\ρ=[some (.sh (.lst (ns.map D.int))),some (.sh (.int (m:Int))),c2,some (.ow (hs.map D.int)),c4,c5]) _ (fun d hd ρ hρ=>?_) _ ⟨List.replicate m 0,none,none,none,⟨Yq,fun h hh=>by rw [(List.mem_replicate.mp hh).2];decide⟩,rfl⟩;obtain⟨hs,c2,c4,c5,⟨hl,hb⟩,rfl⟩:=hρ
  unfold Gx at hd;obtain⟨k,hk,e⟩:=Zv.mp hd
  have hk:=Uo.mp hk;rw [Int.zero_add] at e;subst e;have kj:k%m<hs.length:=by rw [hl];exact Qc _ (by omega)
  have ej:(k:Int)%(m:Int)=((k%m:Nat):Int):=rfl;have hx:L2.atI (hs.map D.int) ((k:Int)%(m:Int))=some (.int hs[k%m]):=zaj kj;have hj:L2.ixN (hs.map D.int).length ((k:Int)%(m:Int))=some (k%m):=by rw [Zc,ej];exact ixN_of kj
  have hb2:=hb _ (Ka kj);have o1:Gp hs[k%m] 48271=true:=Go (by omega) (by have:=hb2.2;unfold q60 at this;omega) (by decide) (by decide);have o2:Gp (k:Int) (k:Int)=true:=Go (by omega) (by omega) (by omega) (by omega);have fin:∀ y:Int,(hs.set (k%m) (y%q60)).length=m/\∀ h∈hs.set (k%m) (y%q60),0<=h/\h<q60:=fun y=>by
   refine⟨by rw [Qe];exact hl,fun h hh=>?_⟩
   rcases List.mem_or_eq_of_mem_set hh with z | z
   ·exact hb h z
   ·subst z;exact⟨Wr _ (by decide),Qx _ (by decide)⟩
  by_cases z:ns=[]
  ·subst z;refine⟨_,_,rfl,zqt (by omega) (by omega) hx hj o1 o2,hs.set (k%m) ((hs[k%m]*48271+0+(k:Int)*(k:Int))%q60),_,_,_,fin _,by rw [List.map_set];rfl⟩
  ·have l0:0<ns.length:=Vc.mpr z;have kl:k%ns.length<ns.length:=Qc _ l0;refine⟨_,_,rfl,zqs (L:=(ns.length:Int)) (c:=ns[k%ns.length]) (by rw [Zc]) (eq_true (by omega)) (eq_false (by omega)) (by omega) (by omega) (by omega) (zaj kl) hx hj o1 o2,hs.set (k%m) ((hs[k%m]*48271+ns[k%ns.length]%q60+(k:Int)*(k:Int))%q60),_,_,_,fin _,by rw [List.map_set]⟩
 obtain⟨N,hN,e⟩:∃ N:Nat,N<=100/\(if (m:Int)<(ns.length:Int) then (ns.length:Int) else (m:Int))=(N:Int):=by
  by_cases z:(m:Int)<(ns.length:Int)
  ·exact⟨ns.length,by omega,if_pos z⟩
  ·exact⟨m,by omega,if_neg z⟩
 obtain⟨ρ',hf,hs,c2,c4,c5,⟨hl,hb⟩,rfl⟩:=key N hN
 refine⟨hs,hl,hb,?_⟩
 unfold zck;exact ybm (L:=(ns.length:Int)) (N:=(N:Int)) (by rw [Zc]) (eq_false (by omega)) e (eq_true ⟨by omega,by omega⟩) (zwh (by omega)) (zhn _) (by rw [Wm];exact hf)
end
open Sf Mg
section
variable {Γ:Nat->List D->Option W}
def zdp:List D->Option W
 | [.int t,.int b]=>if 0<b/\b.natAbs<2^9000 then some (.val (fr (Rat.divInt t b))) else none
 | _=>none
theorem zff {t b:Int} (h:0<b) (hb:b.natAbs<2^9000):zdp [.int t,.int b]=some (.val (fr (Rat.divInt t b))):=if_pos ⟨h,hb⟩
theorem ok_law_fraction (h12:Γ 12=Gz):∀ ds w,ds.length=2->zdp ds=some w->run Γ Bv 3 ds=some w:=by
 intro ds w _ h;unfold zdp at h;split at h
 ·rename_i t b _;split at h
  ·rename_i z;cases h;have zn:b≠0:=by omega
   obtain⟨g1,g2⟩:=zng (t:=t) zn z.2
   rw [zyp zn];have nb:¬ b<0:=by omega
   unfold low1 Sf.low2 by_ Bv;rw [if_neg nb];have hd:=@zbk;clear z zn nb g2;walk_at "evh"
  ·cases h
 ·cases h
def zfe:List D->Option W:=fr2 okRR fun x y=>fr (x+y)
def B4:List D->Option W:=fr2 okRR fun x y=>fr (x*y)
def zjk:List D->Option W:=fr2 okRR fun x y=>.bl (decide (x<y))
theorem den2 {x y:Rat} (sx:Sz 4400 x) (sy:Sz 4400 y):0<(x.den:Int)*(y.den:Int)/\((x.den:Int)*(y.den:Int)).natAbs<2^9000:=by
 refine⟨Wf (Ba x) (Ba y),?_⟩
 rw [Ym,Ye,Ye];exact Zd (Bw sx.b sy.b) (Gc (by decide))
theorem ok_law_plus (h103:Γ 103=zdp):∀ ds w,ds.length=2->zfe ds=some w->run Γ zbo 2 ds=some w:=by
 intro ds w _ h;obtain⟨x,y,rfl,hC,rfl⟩:=zan h
 obtain⟨sx,sy⟩:=zbx hC
 obtain⟨d1,d2⟩:=den2 sx sy
 have m1:Gp x.num (y.den:Int)=true:=Gk sx.t (V9 sy) (by decide) (by decide);have m2:Gp y.num (x.den:Int)=true:=Gk sy.t (V9 sx) (by decide) (by decide);have m3:Gp (x.den:Int) (y.den:Int)=true:=Gk (V9 sx) (V9 sy) (by decide) (by decide);have q:=zff (t:=x.num*(y.den:Int)+y.num*(x.den:Int)) d1 d2;rw [add_r] at q;clear sx sy d1 d2 hC h;unfold zbo;show run Γ _ 2 [fr x,fr y]=some (.val (fr (x+y)));generalize fr (x+y)=z at *;unfold fr;walk_at "evh"
theorem ok_law_times_k31 (h103:Γ 103=zdp):∀ ds w,ds.length=2->B4 ds=some w->run Γ Bq 2 ds=some w:=by
 intro ds w _ h;obtain⟨x,y,rfl,hC,rfl⟩:=zan h
 obtain⟨sx,sy⟩:=zbx hC
 obtain⟨d1,d2⟩:=den2 sx sy
 have m1:Gp x.num y.num=true:=Gk sx.t sy.t (by decide) (by decide);have m3:Gp (x.den:Int) (y.den:Int)=true:=Gk (V9 sx) (V9 sy) (by decide) (by decide);have q:=zff (t:=x.num*y.num) d1 d2;rw [mul_r] at q;clear sx sy d1 d2 hC h;unfold Bq;show run Γ _ 2 [fr x,fr y]=some (.val (fr (x*y)));generalize fr (x*y)=z at *;unfold fr;walk_at "evh"
theorem ok_law_less:∀ ds w,ds.length=2->zjk ds=some w->run Γ zbp 2 ds=some w:=by
 intro ds w _ h;obtain⟨x,y,e,hc,hw⟩:=zan h
 subst e;subst hw;obtain⟨sx,sy⟩:=zbx hc
 have m1:Gp x.num (y.den:Int)=true:=Gk sx.t (V9 sy) (by decide) (by decide);have m2:Gp y.num (x.den:Int)=true:=Gk sy.t (V9 sx) (by decide) (by decide);rw [zvl];clear sx sy hc h;unfold zbp;walk_at "evh"
end
section
variable {Γ:Nat->List D->Option W}
def pP (p:Lb.Pt):D:=.tup [.int p.1,.int p.2]
abbrev zbz:Ss:=(.cons (.app 1 (.bin .add (.bin .add (.ix (.var 1) (.neg (.int 1))) (.int 1)) (.bin .mod (.bin .fdiv (.ix (.var 0) (.int 2)) (.bin .add (.int 2) (.bin .mul (.int 3) (.var 2)))) (.int 3)))) .nil)
abbrev zar:Ss:=(.cons (.app 3 (.bin .add (.bin .add (.ix (.var 3) (.neg (.int 1))) (.int 1)) (.bin .mod (.bin .fdiv (.ix (.var 0) (.int 4)) (.bin .add (.int 1) (.bin .mul (.int 3) (.var 2)))) (.int 3)))) .nil)
theorem zvm {HS XS:List D} {h2 k x:Int} {c3 c4:Option B} (a2:L2.atI HS 2=some (.int h2)) (ax:L2.atI XS (-1)=some (.int x)) (k0:0<2+3*k) (dv:zaf (2+3*k)=true) (mo:Gp 3 k=true) (sl:(XS.length<PySem.sizeLine)=True) :
  exs Γ zbz [some (.sh (.lst HS)),some (.ow XS),some (.sh (.int k)),c3,c4]=some (.nx [some (.sh (.lst HS)),some (.ow (XS++[.int (x+1+h2/(2+3*k)%3)])),some (.sh (.int k)),c3,c4]):=by
 have e:=zhv (a:=h2) k0;unfold zbz;clear k0;walk_at "evh"
theorem zrm {HS XS:List D} {h4 k x:Int} {c1 c4:Option B} (a4:L2.atI HS 4=some (.int h4)) (ax:L2.atI XS (-1)=some (.int x)) (k0:0<1+3*k) (dv:zaf (1+3*k)=true) (mo:Gp 3 k=true) (sl:(XS.length<PySem.sizeLine)=True) :
  exs Γ zar [some (.sh (.lst HS)),c1,some (.sh (.int k)),some (.ow XS),c4]=some (.nx [some (.sh (.lst HS)),c1,some (.sh (.int k)),some (.ow (XS++[.int (x+1+h4/(1+3*k)%3)])),c4]):=by
 have e:=zhv (a:=h4) k0;unfold zar;clear k0;walk_at "evh"
theorem zld {bt:D->RhoS->Option RhoS} {fb:RhoS->Option Out} {I:Nat->RhoS->Prop}:∀ (l:List D) (k:Nat) (ρ:RhoS),I k ρ->(∀ j d ρ,l[j]? = some d->I (k+j) ρ->∃ ρ1 ρ2,bt d ρ=some ρ1/\fb ρ1=some (.nx ρ2)/\I (k+j+1) ρ2)->∃ ρ',forN bt fb l ρ=some (.nx ρ')/\I (k+l.length) ρ'
 | [],k,ρ,h,_=>⟨ρ,rfl,h⟩
 | d::l,k,ρ,h,st=>by
  obtain⟨ρ1,ρ2,e1,e2,h2⟩:=st 0 d ρ rfl h
  obtain⟨ρ',e3,h3⟩:=zld l (k+1) ρ2 h2 fun j d' ρ hj hi=>by
   obtain⟨r1,r2,a,b,c⟩:=st (j+1) d' ρ (by rw [Y8];exact hj) (by rw [show k+(j+1)=k+1+j by omega];exact hi)
   exact⟨r1,r2,a,b,by rw [show k+1+j+1=k+(j+1)+1 by omega];exact c⟩
  refine⟨ρ',?_,by rw [Zu,show k+(l.length+1)=k+1+l.length by omega];exact h3⟩
  unfold forN;rw [e1];simp only
  rw [e2];exact e3
theorem znb {bt:D->RhoS->Option RhoS} {fb:RhoS->Option Out} {I:Nat->RhoS->Prop} (n:Nat) (ρ:RhoS) (h:I 0 ρ) (st:∀ (j:Nat) ρ,j<n->I j ρ->∃ ρ1 ρ2,bt (.int (j:Int)) ρ=some ρ1/\fb ρ1=some (.nx ρ2)/\I (j+1) ρ2):∃ ρ',forN bt fb (Gx 0 n) ρ=some (.nx ρ')/\I n ρ':=by
 have ln:(Gx 0 n).length=n:=by unfold Gx;rw [Zc,Qh]
 obtain⟨ρ',e,h'⟩:=zld (bt:=bt) (fb:=fb) (I:=I) (Gx 0 n) 0 ρ h fun j d ρ hj hi=>by
  have jl:=(Zm.mp hj).1;rw [ln] at jl;unfold Gx at hj;rw [Zi,Jg jl] at hj;cases hj;rw [Yv] at hi |-;dsimp only;rw [Int.zero_add];exact st j ρ jl hi
 rw [Yv,ln] at h';exact⟨ρ',e,h'⟩
structure Gr (k:Nat) (xs:List Int):Prop where
 ex:∃ ys x,xs=ys++[x]
 srt:xs.Pairwise (· < ·)
 len:xs.length=k+1
 bd:∀ x∈xs,-3<=x/\x<=3*(k:Int)
theorem Gr.one {x:Int} (h : -3<=x/\x<=0):Gr 0 [x]:=⟨⟨[],x,rfl⟩,Qt _ _,rfl,fun y hy=>by rw [Zn.mp hy];omega⟩
theorem Gr.more {k:Nat} {ys:List Int} {x e:Int} (h:Gr k (ys++[x])) (e0:0<=e) (e1:e<=2):Gr (k+1) (ys++[x]++[x+1+e]):=by
 have hx:=h.bd x (Z6 _ (.head _));refine⟨⟨_,_,rfl⟩,Kg.mpr ⟨h.srt,Qt _ _,fun y hy z hz=>?_⟩,by rw [Zw,h.len];rfl,fun y hy=>?_⟩
 ·rw [Zn.mp hz];rcases Ys.mp hy with q | q
  ·have:=(Kg.mp h.srt).2.2 y q x (.head _);omega
  ·rw [Zn.mp q];omega
 ·rcases Ys.mp hy with q | q
  ·have:=h.bd y q;omega
  ·rw [Zn.mp q];omega
theorem zjp {ys:List Int} {x:Int}:L2.atI ((ys++[x]).map D.int) (-1)=some (.int x):=by
 rw [Wo];exact L2.atI_last _ _
theorem zvn {HS:List D} {h2:Int} (a2:L2.atI HS 2=some (.int h2)) {x:Int} (hx : -3<=x/\x<=0) (n:Nat) (hn:n<=10):∃ xs c2,Gr n xs/\forN (Be (.name 2)) (exs Γ zbz) (Gx 0 n) [some (.sh (.lst HS)),some (.ow ([x].map D.int)),none,none,none]=some (.nx [some (.sh (.lst HS)),some (.ow (xs.map D.int)),c2,none,none]):=by
 have sz:(1000:Nat)<=PySem.sizeLine:=by decide
 obtain⟨ρ',e,xs,c,g,rfl⟩:=znb (bt:=Be (.name 2)) (fb:=exs Γ zbz) (I:=fun k ρ=>∃ xs c,Gr k xs/\ρ=[some (.sh (.lst HS)),some (.ow (xs.map D.int)),c,none,none]) n _ ⟨[x],none,Gr.one hx,rfl⟩ fun j ρ hj hi=>by
  obtain⟨xs,c,g,rfl⟩:=hi
  obtain⟨ys,y,rfl⟩:=g.ex
  have gl:=g.len;refine⟨_,_,rfl,zvm (k:=(j:Int)) a2 zjp (by omega) (B5 (by omega) (by omega)) (Go (by decide) (by decide) (by omega) (by omega)) (eq_true (by rw [Zc];omega)),_,some (.sh (.int (j:Int))),g.more (e:=h2/(2+3*(j:Int))%3) (by omega) (by omega),?_⟩
  simp only [Wo,Yk,Kp]
 exact⟨xs,c,g,e⟩
theorem zrn {HS:List D} {h4:Int} {c1 c2:Option B} (a4:L2.atI HS 4=some (.int h4)) {x:Int} (hx : -3<=x/\x<=0) (n:Nat) (hn:n<=10):∃ xs c2',Gr n xs/\forN (Be (.name 2)) (exs Γ zar) (Gx 0 n) [some (.sh (.lst HS)),c1,c2,some (.ow ([x].map D.int)),none]=some (.nx [some (.sh (.lst HS)),c1,c2',some (.ow (xs.map D.int)),none]):=by
 have sz:(1000:Nat)<=PySem.sizeLine:=by decide
 obtain⟨ρ',e,xs,c,g,rfl⟩:=znb (bt:=Be (.name 2)) (fb:=exs Γ zar) (I:=fun k ρ=>∃ xs c,Gr k xs/\ρ=[some (.sh (.lst HS)),c1,c,some (.ow (xs.map D.int)),none]) n _ ⟨[x],c2,Gr.one hx,rfl⟩ fun j ρ hj hi=>by
  obtain⟨xs,c,g,rfl⟩:=hi
  obtain⟨ys,y,rfl⟩:=g.ex
  have gl:=g.len;refine⟨_,_,rfl,zrm (k:=(j:Int)) a4 zjp (by omega) (B5 (by omega) (by omega)) (Go (by decide) (by decide) (by omega) (by omega)) (eq_true (by rw [Zc];omega)),_,some (.sh (.int (j:Int))),g.more (e:=h4/(1+3*(j:Int))%3) (by omega) (by omega),?_⟩
  simp only [Wo,Yk,Kp]
 exact⟨xs,c,g,e⟩
abbrev znj:E:=(.comp (.bin .mul (.var 1) (.var 1)) (.name 1) (.seq (.bin .add (.var 1) (.var 3))) 2 [] .non)
abbrev zib:E:=(.comp (.tup (.cons (.var 1) (.cons (.bin .mul (.var 1) (.var 1)) .nil))) (.name 1) (.seqV 1) 2 [] .non)
abbrev zeb:E:=(.comp (.tup (.cons (.var 1) (.cons (.bin .sub (.var 2) (.bin .mul (.var 1) (.var 1))) .nil))) (.name 1) (.rev (.var 3)) 2 [4] .non)
theorem zwo {HS XS YS SQ A C:List D} {h1 h2 h3 h4 n1 n2 M:Int} {sq:List Int} {c2 c2':Option B} (a1:L2.atI HS 1=some (.int h1)) (a2:L2.atI HS 2=some (.int h2)) (a3:L2.atI HS 3=some (.int h3)) (a4:L2.atI HS 4=some (.int h4))
  (e1:1+h2%2=n1) (e2:h3/4%3=n2) (r1:(-4611686018427387904<=n1/\n1<4611686018427387904)=True) (r2:(-4611686018427387904<=n2/\n2<4611686018427387904)=True)
  (f1:forN (Be (.name 2)) (exs Γ zbz) (Gx 0 n1.toNat) [some (.sh (.lst HS)),some (.ow [.int (h1%3-3)]),none,none,none]=some (.nx [some (.sh (.lst HS)),some (.ow XS),c2,none,none]))
  (f2:forN (Be (.name 2)) (exs Γ zar) (Gx 0 n2.toNat) [some (.sh (.lst HS)),some (.ow XS),c2,some (.ow [.int (h3%4-3)]),none]=some (.nx [some (.sh (.lst HS)),some (.ow XS),c2',some (.ow YS),none]))
  (k1:ev Γ znj [some (.lst HS),some (.lst XS),c2'.map B.d,some (.lst YS),none]=some (.new SQ)) (k2:zhq SQ=some sq) (k3:maxI sq=some M) (mo:Gp 2 M=true)
  (k4:ev Γ zib [some (.lst HS),some (.lst XS),c2'.map B.d,some (.lst YS),some (.int (2*M+1+h4/32%9))]=some (.new A)) (k5:ev Γ zeb [some (.lst HS),some (.lst XS),c2'.map B.d,some (.lst YS),some (.int (2*M+1+h4/32%9))]=some (.new C))
  (ad:opW .add (.lst A) (.lst C)=some (.new (A++C))):run Γ Bh 5 [.lst HS]=some (.new (A++C)):=by
 show run Γ (.cons (.asg 1 (.lst (.cons (.bin .sub (.bin .mod (.ix (.var 0) (.int 1)) (.int 3)) (.int 3)) .nil))) (.cons (.frr (.name 2) (.range1 (.bin .add (.int 1) (.bin .mod (.ix (.var 0) (.int 2)) (.int 2)))) zbz) (.cons (.asg 3 (.lst (.cons (.bin .sub (.bin .mod (.ix (.var 0) (.int 3)) (.int 4)) (.int 3)) .nil))) (.cons (.frr (.name 2) (.range1 (.bin .mod (.bin .fdiv (.ix (.var 0) (.int 3)) (.int 4)) (.int 3))) zar) (.cons (.asg 4 (.bin .add (.bin .add (.bin .mul (.int 2) (.bi .max (.cons znj .nil))) (.int 1)) (.bin .mod (.bin .fdiv (.ix (.var 0) (.int 4)) (.int 32)) (.int 9)))) (.cons (.ret (.bin .add zib zeb)) .nil)))))) 5 _=_;generalize zbz=bl at *;generalize zar=bh at *;generalize znj=cq at *;generalize zib=cl at *;generalize zeb=ch at *;walk_at "evh"
end
open Sf Mg
section
variable {Γ:Nat->List D->Option W}
theorem zjs:∀ l:List Int,zhq (l.map D.int)=some l
 | []=>rfl
 | a::l=>by
  show (zhq (l.map D.int)).map _=_;rw [zjs l];rfl
theorem zrc:∀ l:List Int,l≠[]->∃ m,maxI l=some m
 | [],h=>absurd rfl h
 | [a],_=>⟨a,rfl⟩
 | a::b::l,_=>by
  obtain⟨m,e⟩:=zrc (b::l) (fun z=>by cases z)
  exact⟨_,by unfold maxI;rw [e];rfl⟩
theorem sq_in {x y:Int} (h:x*x<=y*y) : -(y.natAbs:Int)<=x/\x<=(y.natAbs:Int):=by
 have e:(y.natAbs:Int)*(y.natAbs:Int)=y*y:=W4 y;have n:(0:Int)<=(y.natAbs:Int):=Yl _;generalize (y.natAbs:Int)=m at *;constructor
 ·refine Q7.mp fun z=>?_;have:=Wf (show 0 < -m-x by omega) (show 0<m-x by omega)
  have e2:(-m-x)*(m-x)=x*x-m*m:=by grind
  omega
 ·refine Q7.mp fun z=>?_;have:=Wf (show 0<x-m by omega) (show 0<x+m by omega)
  have e2:(x-m)*(x+m)=x*x-m*m:=by grind
  omega
theorem zlp {A C:List D} (h:A.length+C.length<=1000):opW .add (.lst A) (.lst C)=some (.new (A++C)):=by
 have sz:(1000:Nat)<=PySem.sizeLine:=by decide
 exact if_pos (Ya h sz)
theorem zhd {x:Int} (h1 : -31<=x) (h2:x<=31):Gp x x=true:=Go (by omega) (by omega) (by omega) (by omega)
theorem ydc {xs ys:List Int} {o1 o2 o3:Option D} (hx:∀ x∈xs++ys,-31<=x/\x<=31) (hl:xs.length+ys.length<=1000):ev Γ znj [o1,some (.lst (xs.map D.int)),o2,some (.lst (ys.map D.int)),o3]=some (.new (((xs++ys).map fun x=>x*x).map D.int)):=by
 have sz:(1000:Nat)<=PySem.sizeLine:=by decide
 rw [Wb];refine zaq (l:=xs++ys) (g:=D.int) (h:=D.int ∘ fun x=>x*x) ?_ (by rw [Zw];omega) rfl (fun x hm=>?_)
 ·have ad:=zlp (A:=xs.map D.int) (C:=ys.map D.int) (by rw [Zc,Zc];exact hl);rw [Wo];clear hx hl sz;walk_at "evh"
 ·have o:=zhd (hx x hm).1 (hx x hm).2;clear hx hl sz hm;walk_at "evh"
  rfl
theorem zwi {xs:List Int} {o1 o2 o3 o4:Option D} (hx:∀ x∈xs,-31<=x/\x<=31) (hl:xs.length<=1000):ev Γ zib [o1,some (.lst (xs.map D.int)),o2,o3,o4]=some (.new ((xs.map Lb.low2).map pP)):=by
 have sz:(1000:Nat)<=PySem.sizeLine:=by decide
 rw [Wb];refine zaq (l:=xs) (g:=D.int) (h:=pP ∘ Lb.low2) ?_ (by omega) rfl (fun x hm=>?_)
 ·clear hx hl sz;walk_at "evh"
 ·have o:=zhd (hx x hm).1 (hx x hm).2;have e:(pP ∘ Lb.low2) x=.tup [.int x,.int (x*x)]:=rfl;clear hx hl sz hm;walk_at "evh"
theorem zse {ys:List Int} {o1 o2 o3:Option D} {T:Int} (hx:∀ x∈ys,-31<=x/\x<=31) (hl:ys.length<=1000):ev Γ zeb [o1,o2,o3,some (.lst (ys.map D.int)),some (.int T)]=some (.new ((ys.reverse.map (Lb.high2 T)).map pP)):=by
 have sz:(1000:Nat)<=PySem.sizeLine:=by decide
 rw [Wb];refine zaq (l:=ys.reverse) (g:=D.int) (h:=pP ∘ Lb.high2 T) ?_ (by rw [Yz];omega) rfl (fun x hm=>?_)
 ·have e:(ys.map D.int).reverse=ys.reverse.map D.int:=by rw [List.map_reverse]
  have e2:∀ l,lstD (.lst l)=some l:=fun _=>rfl
  clear hx hl sz;walk_at "evh"
 ·have o:=zhd (hx x (W9.mp hm)).1 (hx x (W9.mp hm)).2;have e:(pP ∘ Lb.high2 T) x=.tup [.int x,.int (T-x*x)]:=rfl;clear hx hl sz hm;walk_at "evh"
structure RgOk (R:List Lb.Pt):Prop where
 tri:Lb.Tri R
 three:3<=R.length
 few:R.length<=30
 bd:∀ p∈R,(-4000<=p.1/\p.1<=4000)/\(-4000<=p.2/\p.2<=4000)
theorem yao {n m:Nat} {xs ys:List Int} (gx:Gr n xs) (gy:Gr m ys) (n1:1<=n) (hn:n<=10) (hm:m<=10) {M T:Int} (hM:maxI ((xs++ys).map fun x=>x*x)=some M) (t0:2*M<T) (t1:T<=2*M+20):RgOk (xs.map Lb.low2++ys.reverse.map (Lb.high2 T)):=by
 obtain⟨h1,h2⟩:=zdz hM
 obtain⟨z,hz,e⟩:=Zv.mp h1
 have e:z*z=M:=e;have bz : -3<=z/\z<=30:=by
  rcases Ys.mp hz with q | q
  ·have:=gx.bd z q;omega
  ·have:=gy.bd z q;omega
 have sqz:∀ x:Int,-3<=x->x<=30->x*x<=900:=fun x a b=>by
  have:=Yb (show 0<=30-x by omega) (show 0<=30+x by omega)
  have e2:(30-x)*(30+x)=900-x*x:=by grind
  omega
 have M9:=sqz z bz.1 bz.2;rw [e] at M9;have M0:0<=M:=by
  have:=W4 z
  rw [<- e,<- this];exact Yb (Yl _) (Yl _)
 have ins:∀ x∈xs++ys,-(z.natAbs:Int)<=x/\x<=(z.natAbs:Int):=fun x hx=>sq_in (by rw [e];exact h2 _ (Zv.mpr ⟨x,hx,rfl⟩))
 have ly:=gy.len;have lx:=gx.len;refine⟨Lb.tri_bows (m:=(z.natAbs:Int)) gx.srt (List.pairwise_reverse.mpr gy.srt) (fun x hx=>ins x (W3 _ hx)) (fun y hy=>ins y (Z6 _ (W9.mp hy))) ?_,?_,?_,fun p hp=>?_⟩
 ·rw [W4,e];exact t0
 ·rw [Zw,Zc,Zc,Yz];omega
 ·rw [Zw,Zc,Zc,Yz];omega
 ·rcases Ys.mp hp with q | q
  ·obtain⟨x,hx,e2⟩:=Zv.mp q
   have b:=gx.bd x hx;have s:=sqz x (by omega) (by omega);have s0:=h2 _ (Zv.mpr ⟨x,W3 _ hx,rfl⟩);have p0:0<=x*x:=by rw [<- W4 x];exact Yb (Yl _) (Yl _)
   rw [<- e2];exact⟨⟨by show -4000<=x;omega,by show x<=4000;omega⟩,by show -4000<=x*x;omega,by show x*x<=4000;omega⟩
  ·obtain⟨x,hx,e2⟩:=Zv.mp q
   have b:=gy.bd x (W9.mp hx);have s:=sqz x (by omega) (by omega);have p0:0<=x*x:=by rw [<- W4 x];exact Yb (Yl _) (Yl _)
   rw [<- e2];exact⟨⟨by show -4000<=x;omega,by show x<=4000;omega⟩,by show -4000<=T-x*x;omega,by show T-x*x<=4000;omega⟩
def zgg:List D->Option W:=run (tab []) Bh 5
theorem ok_law_bows_k32:∀ ds w,ds.length=1->zgg ds=some w->run Γ Bh 5 ds=some w:=fun ds w _ h=>zay [] (fun p hp=>by cases hp) (by decide) ds w h
theorem zwp {hs:List Int} (hl:8<=hs.length):∃ R,RgOk R/\zgg [.lst (hs.map D.int)]=some (.new (R.map pP)):=by
 have at':∀ (j:Nat) (h:j<8),L2.atI (hs.map D.int) (j:Int)=some (.int (hs[j]'(by omega))):=fun j h=>zaj (by omega)
 obtain⟨h1,a1⟩:∃ h,L2.atI (hs.map D.int) 1=some (.int h):=⟨_,at' 1 (by decide)⟩
 obtain⟨h2,a2⟩:∃ h,L2.atI (hs.map D.int) 2=some (.int h):=⟨_,at' 2 (by decide)⟩
 obtain⟨h3,a3⟩:∃ h,L2.atI (hs.map D.int) 3=some (.int h):=⟨_,at' 3 (by decide)⟩
 obtain⟨h4,a4⟩:∃ h,L2.atI (hs.map D.int) 4=some (.int h):=⟨_,at' 4 (by decide)⟩
 obtain⟨n1,e1,b1,c1⟩:∃ n:Nat,1+h2%2=(n:Int)/\1<=n/\n<=2:=⟨(1+h2%2).toNat,by omega,by omega,by omega⟩
 obtain⟨n2,e2,b2⟩:∃ n:Nat,h3/4%3=(n:Int)/\n<=2:=⟨(h3/4%3).toNat,by omega,by omega⟩
 obtain⟨xs,c2,gx,f1⟩:=zvn (Γ:=tab []) a2 (x:=h1%3-3) ⟨by omega,by omega⟩ n1 (by omega)
 obtain⟨ys,c2',gy,f2⟩:=zrn (Γ:=tab []) (c1:=some (.ow (xs.map D.int))) (c2:=c2) a4 (x:=h3%4-3) ⟨by omega,by omega⟩ n2 (by omega)
 have lx:=gx.len;have ly:=gy.len;have bx:∀ x∈xs,-31<=x/\x<=31:=fun x hx=>by have:=gx.bd x hx;omega
 have by_:∀ x∈ys,-31<=x/\x<=31:=fun x hx=>by have:=gy.bd x hx;omega
 obtain⟨M,hM⟩:=zrc ((xs++ys).map fun x=>x*x) (fun z=>by
  have:=congrArg List.length z
  rw [Zc,Zw,Kj] at this;omega)
 have G:=yao gx gy b1 (by omega) (by omega) hM (T:=2*M+1+h4/32%9) (by omega) (by omega);have M0:0<=M/\M<=1000:=by
  obtain⟨p,_⟩:=zdz hM
  obtain⟨z,hz,e⟩:=Zv.mp p
  have e:z*z=M:=e;have bz : -31<=z/\z<=31:=by
   rcases Ys.mp hz with q | q
   ·exact bx z q
   ·exact by_ z q
  have:=Yb (show 0<=31-z by omega) (show 0<=31+z by omega)
  have e2:(31-z)*(31+z)=961-z*z:=by grind
  have p0:0<=z*z:=by rw [<- W4 z];exact Yb (Yl _) (Yl _)
  omega
 refine⟨_,G,?_⟩
 unfold zgg;rw [Wo];exact zwo (n1:=(n1:Int)) (n2:=(n2:Int)) a1 a2 a3 a4 e1 e2 (eq_true ⟨by omega,by omega⟩) (eq_true ⟨by omega,by omega⟩) (by rw [Wm];exact f1) (by rw [Wm];exact f2)
  (ydc (fun x hx=>(Ys.mp hx).elim (bx x) (by_ x)) (by omega)) (zjs _) hM (Go (by decide) (by decide) (by omega) (by omega)) (zwi bx (by omega)) (zse by_ (by omega)) (zlp (by rw [Zc,Zc,Zc,Zc,Yz];omega))
end
open Sf Mg
section
variable {Γ:Nat->List D->Option W}
abbrev Bm:Ss:=(.cons (.asg 3 (.tup (.cons (.bin .add (.ix (.var 1) (.int 0)) (.ix (.var 2) (.int 0))) (.cons (.bin .add (.ix (.var 1) (.int 1)) (.ix (.var 2) (.int 1))) .nil)))) (.cons (.asg 4 (.bin .mod (.ix (.var 0) (.int 0)) (.int 5))) (.cons (.iff (.cmp .eq (.var 4) (.int 2)) (.cons (.ret (.lst (.cons (.tup (.cons (.int 0) (.cons (.int 0) .nil))) (.cons (.var 1) (.cons (.var 3) (.cons (.var 2) .nil)))))) .nil) .nil) (.cons (.iff (.cmp .eq (.var 4) (.int 3)) (.cons (.ret (.lst (.cons (.tup (.cons (.int 0) (.cons (.int 0) .nil))) (.cons (.var 1) (.cons (.var 2) .nil))))) .nil) .nil) (.cons (.iff (.cmp .eq (.var 4) (.int 4)) (.cons (.asg 5 (.tup (.cons (.bin .add (.ix (.var 1) (.int 0)) (.ix (.var 3) (.int 0))) (.cons (.bin .add (.ix (.var 1) (.int 1)) (.ix (.var 3) (.int 1))) .nil)))) (.cons (.asg 6 (.tup (.cons (.bin .add (.ix (.var 2) (.int 0)) (.ix (.var 3) (.int 0))) (.cons (.bin .add (.ix (.var 2) (.int 1)) (.ix (.var 3) (.int 1))) .nil)))) (.cons (.ret (.lst (.cons (.tup (.cons (.int 0) (.cons (.int 0) .nil))) (.cons (.var 1) (.cons (.var 5) (.cons (.tup (.cons (.bin .mul (.int 2) (.ix (.var 3) (.int 0))) (.cons (.bin .mul (.int 2) (.ix (.var 3) (.int 1))) .nil))) (.cons (.var 6) (.cons (.var 2) .nil)))))))) .nil))) .nil) (.cons (.ret (.call 105 (.cons (.var 0) .nil))) .nil))))))
theorem zqd {HS:List D} {h1 h2 h3 h4 u0 u1 v0 v1:Int} (a1:L2.atI HS 1=some (.int h1)) (a2:L2.atI HS 2=some (.int h2)) (a3:L2.atI HS 3=some (.int h3)) (a4:L2.atI HS 4=some (.int h4)) (e1:1+h1%5=u0) (e2:h2%7-3=u1) (e3:0-h3%4=v0) (e4:1+h4%5=v1)
  (m1:Gp u0 v1=true) (m2:Gp u1 v0=true):run Γ Bg 7 [.lst HS]=outO (exs Γ Bm [some (.sh (.lst HS)),some (.sh (.tup [.int u0,.int u1])),some (.sh (.tup [.int v0,.int (if u0*v1<=u1*v0 then v1+10 else v1)])),none,none,none,none]):=by
 show run Γ (.cons (.asg 1 (.tup (.cons (.bin .add (.int 1) (.bin .mod (.ix (.var 0) (.int 1)) (.int 5))) (.cons (.bin .sub (.bin .mod (.ix (.var 0) (.int 2)) (.int 7)) (.int 3)) .nil)))) (.cons (.asg 2 (.tup (.cons (.bin .sub (.int 0) (.bin .mod (.ix (.var 0) (.int 3)) (.int 4))) (.cons (.bin .add (.int 1) (.bin .mod (.ix (.var 0) (.int 4)) (.int 5))) .nil)))) (.cons (.iff (.cmp .le (.bin .mul (.ix (.var 1) (.int 0)) (.ix (.var 2) (.int 1))) (.bin .mul (.ix (.var 1) (.int 1)) (.ix (.var 2) (.int 0)))) (.cons (.asg 2 (.tup (.cons (.ix (.var 2) (.int 0)) (.cons (.bin .add (.ix (.var 2) (.int 1)) (.int 10)) .nil)))) .nil) .nil) Bm))) 7 _=_;generalize Bm=rt at *;by_cases c:u0*v1<=u1*v0
 ·rw [if_pos c];have cc:decide (u0*v1<=u1*v0)=true:=decide_eq_true c;clear c;walk_at "evh"
 ·rw [if_neg c];have cc:decide (u0*v1<=u1*v0)=false:=decide_eq_false c;clear c;walk_at "evh"
section
variable {HS:List D} {h0 u0 u1 v0 v1:Int} (a0:L2.atI HS 0=some (.int h0))
include a0
theorem ring_2 (e:h0%5=2):outO (exs Γ Bm [some (.sh (.lst HS)),some (.sh (.tup [.int u0,.int u1])),some (.sh (.tup [.int v0,.int v1])),none,none,none,none])=some (.new [.tup [.int 0,.int 0],.tup [.int u0,.int u1],.tup [.int (u0+v0),.int (u1+v1)],.tup [.int v0,.int v1]]):=by
 unfold Bm;walk_at "evh"
theorem ring_3 (e:h0%5=3):outO (exs Γ Bm [some (.sh (.lst HS)),some (.sh (.tup [.int u0,.int u1])),some (.sh (.tup [.int v0,.int v1])),none,none,none,none])=some (.new [.tup [.int 0,.int 0],.tup [.int u0,.int u1],.tup [.int v0,.int v1]]):=by
 unfold Bm;walk_at "evh"
theorem ring_4 (e:h0%5=4) (m1:Gp 2 (u0+v0)=true) (m2:Gp 2 (u1+v1)=true):outO (exs Γ Bm [some (.sh (.lst HS)),some (.sh (.tup [.int u0,.int u1])),some (.sh (.tup [.int v0,.int v1])),none,none,none,none])=some (.new [.tup [.int 0,.int 0],.tup [.int u0,.int u1],.tup [.int (u0+(u0+v0)),.int (u1+(u1+v1))],.tup [.int (2*(u0+v0)),.int (2*(u1+v1))],.tup [.int (v0+(u0+v0)),.int (v1+(u1+v1))],.tup [.int v0,.int v1]]):=by
 unfold Bm;walk_at "evh"
theorem yan {z:Int} {φ:List D->Option W} (h105:Γ 105=φ) {w:W} (e:h0%5=z) (d2:decide (z=2)=false) (d3:decide (z=3)=false) (d4:decide (z=4)=false) (q:φ [.lst HS]=some w):outO (exs Γ Bm [some (.sh (.lst HS)),some (.sh (.tup [.int u0,.int u1])),some (.sh (.tup [.int v0,.int v1])),none,none,none,none])=some w:=by
 unfold Bm;walk_at "evh"
end
def zfd:List D->Option W:=run (tab [(105,zgg)]) Bg 7
theorem ok_law_ring_k31 (h105:Γ 105=zgg):∀ ds w,ds.length=1->zfd ds=some w->run Γ Bg 7 ds=some w:=fun ds w _ h=>zay [(105,zgg)] (fun p hp=>by rw [Zn.mp hp];exact h105) (by decide) ds w h
theorem zuw {hs:List Int} (hl:8<=hs.length):∃ R,RgOk R/\zfd [.lst (hs.map D.int)]=some (.new (R.map pP)):=by
 have at':∀ (j:Nat) (h:j<8),L2.atI (hs.map D.int) (j:Int)=some (.int (hs[j]'(by omega))):=fun j h=>zaj (by omega)
 obtain⟨h0,a0⟩:∃ h,L2.atI (hs.map D.int) 0=some (.int h):=⟨_,at' 0 (by decide)⟩
 obtain⟨h1,a1⟩:∃ h,L2.atI (hs.map D.int) 1=some (.int h):=⟨_,at' 1 (by decide)⟩
 obtain⟨h2,a2⟩:∃ h,L2.atI (hs.map D.int) 2=some (.int h):=⟨_,at' 2 (by decide)⟩
 obtain⟨h3,a3⟩:∃ h,L2.atI (hs.map D.int) 3=some (.int h):=⟨_,at' 3 (by decide)⟩
 obtain⟨h4,a4⟩:∃ h,L2.atI (hs.map D.int) 4=some (.int h):=⟨_,at' 4 (by decide)⟩
 obtain⟨u0,e1,b1⟩:∃ u,1+h1%5=u/\1<=u/\u<=5:=⟨_,rfl,by omega,by omega⟩
 obtain⟨u1,e2,b2⟩:∃ u,h2%7-3=u /\ -3<=u/\u<=3:=⟨_,rfl,by omega,by omega⟩
 obtain⟨v0,e3,b3⟩:∃ u,0-h3%4=u /\ -3<=u/\u<=0:=⟨_,rfl,by omega,by omega⟩
 obtain⟨v1,e4,b4⟩:∃ u,1+h4%5=u/\1<=u/\u<=5:=⟨_,rfl,by omega,by omega⟩
 have hd:=zqd (Γ:=tab [(105,zgg)]) a1 a2 a3 a4 e1 e2 e3 e4 (Go (by omega) (by omega) (by omega) (by omega)) (Go (by omega) (by omega) (by omega) (by omega));unfold zfd;rw [hd];have small : -9<=u1*v0/\u1*v0<=9:=by
  have p1:=Yb (show 0<=3-u1 by omega) (show 0 <= -v0 by omega);have p2:=Yb (show 0<=3+u1 by omega) (show 0 <= -v0 by omega);have f1:(3-u1) * -v0=u1*v0-3*v0:=by grind
  have f2:(3+u1) * -v0 = -(u1*v0)-3*v0:=by grind
  omega
 obtain⟨w1,hw,bw,cr⟩:∃ w,(if u0*v1<=u1*v0 then v1+10 else v1)=w/\(1<=w/\w<=15)/\0<Lb.crP (u0,u1) (v0,w):=by
  by_cases c:u0*v1<=u1*v0
  ·refine⟨_,if_pos c,⟨by omega,by omega⟩,?_⟩
   show 0<u0*(v1+10)-u1*v0;have p:=Yb (show 0<=u0-1 by omega) (show 0<=v1+10 by omega);have f:(u0-1)*(v1+10)=u0*(v1+10)-(v1+10):=by grind
   omega
  ·refine⟨_,if_neg c,⟨by omega,by omega⟩,?_⟩
   show 0<u0*v1-u1*v0;omega
 rw [hw];have fin:∀ {R:List Lb.Pt} {w:W},w=.new (R.map pP)->some w=some (W.new (R.map pP)):=fun e=>by rw [e]
 rcases (show h0%5=2\/h0%5=3\/h0%5=4\/(h0%5=0\/h0%5=1) by omega) with c | c | c | c
 ·rw [ring_2 a0 c];refine⟨[(0,0),(u0,u1),(u0+v0,u1+w1),(v0,w1)],⟨Lb.tri_box cr,(by simp),(by simp),fun p hp=>?_⟩,rfl⟩
  simp only [Zf,Yj,or_false] at hp;rcases hp with rfl | rfl | rfl | rfl <;> dsimp only <;> omega
 ·rw [ring_3 a0 c];refine⟨[(0,0),(u0,u1),(v0,w1)],⟨Lb.tri_3 cr,(by simp),(by simp),fun p hp=>?_⟩,rfl⟩
  simp only [Zf,Yj,or_false] at hp;rcases hp with rfl | rfl | rfl <;> dsimp only <;> omega
 ·rw [ring_4 a0 c (Go (by decide) (by decide) (by omega) (by omega)) (Go (by decide) (by decide) (by omega) (by omega))];refine⟨[(0,0),(u0,u1),(u0+(u0+v0),u1+(u1+w1)),(2*(u0+v0),2*(u1+w1)),(v0+(u0+v0),w1+(u1+w1)),(v0,w1)],⟨Lb.tri_6 cr,(by simp),(by simp),fun p hp=>?_⟩,rfl⟩
  simp only [Zf,Yj,or_false] at hp;rcases hp with rfl | rfl | rfl | rfl | rfl | rfl <;> dsimp only <;> omega
 ·obtain⟨R,hR,e⟩:=zwp hl
  refine⟨R,hR,yan a0 (Γ:=tab [(105,zgg)]) (z:=h0%5) (φ:=zgg) rfl rfl (decide_eq_false (by omega)) (decide_eq_false (by omega)) (decide_eq_false (by omega)) e⟩
abbrev zdb:Ss:=(.cons (.asg 9 (.call 103 (.cons (.bin .add (.bin .mul (.var 7) (.var 2)) (.bin .mod (.ix (.var 0) (.int 6)) (.var 3))) (.cons (.var 4) .nil)))) (.cons (.app 6 (.tup (.cons (.var 9) (.cons (.call 103 (.cons (.bin .add (.bin .mul (.var 8) (.var 2)) (.bin .mod (.ix (.var 0) (.int 7)) (.var 3))) (.cons (.var 4) .nil))) .nil)))) .nil))
theorem zuk {φ:List D->Option W} (h103:Γ 103=φ) {HS L:List D} {x y b o s h6 h7:Int} {c1 c5 c9:Option B} {X Y:D} (a6:L2.atI HS 6=some (.int h6)) (a7:L2.atI HS 7=some (.int h7)) (o0:0<o) (m1:Gp x b=true) (m2:Gp y b=true)
  (q1:φ [.int (x*b+h6%o),.int s]=some (.val X)) (q2:φ [.int (y*b+h7%o),.int s]=some (.val Y)) (l1:lf X=true) (l2:lf Y=true) (sl:(L.length<PySem.sizeLine)=True) :
  exs Γ zdb [some (.sh (.lst HS)),c1,some (.sh (.int b)),some (.sh (.int o)),some (.sh (.int s)),c5,some (.ow L),some (.sh (.int x)),some (.sh (.int y)),c9]=some (.nx [some (.sh (.lst HS)),c1,some (.sh (.int b)),some (.sh (.int o)),some (.sh (.int s)),c5,some (.ow (L++[.tup [X,Y]])),some (.sh (.int x)),some (.sh (.int y)),some (.sh X)]):=by
 have e1:=B9 (a:=h6) o0;have e2:=B9 (a:=h7) o0;have z:(o=0)=False:=eq_false (by omega);unfold zdb;clear o0;walk_at "evh"
theorem yae {φ ψ:List D->Option W} (h46:Γ 46=ψ) (h103:Γ 103=φ) {HS RR A C O:List D} {h0 h5 b o s k:Int} {m:D} {c1 c7 c8 c9:Option B} (a0:L2.atI HS 0=some (.int h0)) (a5:L2.atI HS 5=some (.int h5))
  (rg:ψ [.lst HS]=some (.new RR)) (lr:lfL RR=true) (i1:L2.atI [D.int 1,D.int (1+h5%1000000000)] (h0/5%2)=some (.int b)) (i2:L2.atI [D.int 10,D.int 1000000000000000000] (h0/10%2)=some (.int o)) (i3:L2.atI [D.int 1,D.int (1+h5%6)] (h0/20%2)=some (.int s))
  (mn:minN RR=some m) (ix:idxW (.lst RR) m=some (.val (.int k))) (s1:cutD RR (some k) none=A) (s2:cutD RR none (some k)=C) (ad:opW .add (.lst A) (.lst C)=some (.new (A++C))) (la:lfL (A++C)=true)
  (f:forN (Be (.tup [7,8])) (exs Γ zdb) (A++C) [some (.sh (.lst HS)),some (.ow RR),some (.sh (.int b)),some (.sh (.int o)),some (.sh (.int s)),some (.sh (.int k)),some (.ow []),none,none,none]=some (.nx [some (.sh (.lst HS)),some (.ow RR),some (.sh (.int b)),some (.sh (.int o)),some (.sh (.int s)),some (.sh (.int k)),some (.ow O),c7,c8,c9])) :
  run Γ Bb 10 [.lst HS]=some (.new O):=by
 show run Γ (.cons (.asg 1 (.call 46 (.cons (.var 0) .nil))) (.cons (.asg 2 (.ix (.lst (.cons (.int 1) (.cons (.bin .add (.int 1) (.bin .mod (.ix (.var 0) (.int 5)) (.bin .pow (.int 10) (.int 9)))) .nil))) (.bin .mod (.bin .fdiv (.ix (.var 0) (.int 0)) (.int 5)) (.int 2)))) (.cons (.asg 3 (.ix (.lst (.cons (.int 10) (.cons (.bin .pow (.int 10) (.int 18)) .nil))) (.bin .mod (.bin .fdiv (.ix (.var 0) (.int 0)) (.int 10)) (.int 2)))) (.cons (.asg 4 (.ix (.lst (.cons (.int 1) (.cons (.bin .add (.int 1) (.bin .mod (.ix (.var 0) (.int 5)) (.int 6))) .nil))) (.bin .mod (.bin .fdiv (.ix (.var 0) (.int 0)) (.int 20)) (.int 2)))) (.cons (.asg 5 (.idx (.var 1) (.bi .min (.cons (.var 1) .nil)))) (.cons (.asg 6 (.lst .nil)) (.cons (.frr (.tup [7,8]) (.seq (.bin .add (.sl (.var 1) (.som (.var 5)) .non) (.sl (.var 1) .non (.som (.var 5))))) zdb) (.cons (.retV 6) .nil)))))))) 10 _=_;generalize zdb=bd at *;walk_at "evh"
end
open Sf Mg
theorem argB {bt:Nat->Nat->Bool} {k n:Nat} (h1:∀ j,j<=n->j≠k->bt k j=true) (h2:∀ j,j<=n->j≠k->bt j k=false):∀ m,m<=n->(m<k->PySem.argBest bt m<=m)/\(k<=m->PySem.argBest bt m=k)
 | 0,_=>⟨fun _=>Zj _,fun h=>by show 0=k;omega⟩
 | m+1,hm=>by
  obtain⟨a,b⟩:=argB h1 h2 m (by omega)
  unfold PySem.argBest;by_cases e:k<=m
  ·rw [b e,h2 (m+1) hm (by omega)];exact⟨fun h=>by omega,fun _=>rfl⟩
  ·by_cases e2:k=m+1
   ·have:=a (by omega)
    rw [<- e2,h1 _ (by omega) (by omega)];exact⟨fun h=>by omega,fun _=>rfl⟩
   ·have:=a (by omega)
    refine⟨fun _=>?_,fun h=>by omega⟩
    split
    ·exact Zj _
    ·omega
theorem ltN_P {p q:Lb.Pt}:ltN (pP p) (pP q)=true↔Lb.ltP p q:=by
 have e:ltN (pP p) (pP q)=lt2 p.1 p.2 q.1 q.2:=rfl;rw [e];unfold lt2 fstD Lb.ltP;by_cases h:p.1=q.1
 ·by_cases h2:p.2=q.2
  ·simp [h,h2]
  ·simp [h,h2]
 ·simp [h]
theorem zcz {R:List Lb.Pt} {i:Nat} (hi:i<R.length):R[i]? = some (R.getD i (0,0)):=by
 rw [Zk,Ze hi];rfl
theorem yca {R:List Lb.Pt} {k:Nat} (F:Lb.LoP R k):minN (R.map pP)=some (pP (R.getD k (0,0))):=by
 have all:((R.map pP).all fun d=>(nst d).isSome)=true:=Jw.mpr fun d hd=>by
  obtain⟨q,_,e⟩:=Zv.mp hd
  rw [<- e];rfl
 unfold minN;rw [if_pos all];have g:∀ i,i<R.length->(R.map pP).getD i .non=pP (R.getD i (0,0)):=fun i hi=>by
  rw [Zk,Zi,zcz hi];rfl
 have lk:=F.lt;have e:zof (R.map pP)=k:=by
  unfold zof;rw [Zc];refine (argB (n:=R.length-1) (fun j hj ne=>?_) (fun j hj ne=>?_) (R.length-1) (Zj _)).2 (by omega)
  ·show ltN _ _=true;rw [g k lk,g j (by omega)];exact ltN_P.mpr (F.low j _ _ ne (zcz lk) (zcz (by omega)))
  ·show ltN _ _=false;rw [g k lk,g j (by omega)];refine Jq.mpr fun z=>?_;exact Lb.ltP_irr _ (Lb.ltP_trans (ltN_P.mp z) (F.low j _ _ ne (zcz lk) (zcz (by omega))))
 rw [e,Zi,zcz lk];rfl
theorem pP_inj {a b:Lb.Pt} (h:eqD (pP a) (pP b)=true):a=b:=by
 unfold pP at h;simp only [eqD,eqL,Zl,beq_iff_eq,and_true] at h;exact Z5 h.1 h.2
theorem dOk_P:∀ R:List Lb.Pt,dOkL 49 (R.map pP)=true
 | []=>rfl
 | p::R=>by
  show (dOk 49 (pP p) && dOkL 49 (R.map pP))=true;rw [dOk_P R];rfl
theorem ybz:∀ R:List Lb.Pt,lfL (R.map pP)=true
 | []=>rfl
 | p::R=>by
  show (lf (pP p) && lfL (R.map pP))=true;rw [ybz R];rfl
theorem idx_P {R:List Lb.Pt} {k:Nat} (nd:R.Nodup) (hk:k<R.length):idxW (.lst (R.map pP)) (pP (R.getD k (0,0)))=some (.val (.int (k:Int))):=by
 have gk:R.getD k (0,0)=R[k]:=by rw [Zk,Ze hk];rfl
 have h:idxD (R.map pP) (pP (R.getD k (0,0)))=some k:=by
  unfold idxD;rw [dOk_P,if_pos (show (true && dOk 50 (pP (R.getD k (0,0))))=true from rfl)];refine Jj.mpr ⟨by rw [Zc];exact hk,?_,fun j hj=>?_⟩
  ·rw [Jv,gk];exact znf 50 _ rfl
  ·rw [Jv,gk];intro z;have:=pP_inj z
   have:=(Kb (h₀:=by omega) (h₁:=hk) nd).mp this
   omega
 show (idxD _ _).map _=_;rw [h];rfl
abbrev zcu:List (Nat×(List D->Option W)):=[(46,zfd),(103,zdp)]
def zfc:List D->Option W:=run (tab zcu) Bb 10
section
variable {Γ:Nat->List D->Option W}
theorem ok_law_shape_k31 (h46:Γ 46=zfd) (h103:Γ 103=zdp):∀ ds w,ds.length=1->zfc ds=some w->run Γ Bb 10 ds=some w:=fun ds w _ h=>zay zcu (by
 intro p hp;simp only [zcu,Zf,Yj,or_false] at hp;rcases hp with rfl | rfl <;> assumption) (by decide) ds w h
end
structure Sh5 (l:List (Rat×Rat)):Prop where
 shp:IsShp l
 few:l.length<=30
 ov:∃ s:Int,s≠0/\s.natAbs<2^3/\∀ q∈l,Ov s 62 q
 sy:SyL 62 3 l
theorem zpd {a b:D} {i:Int} (h:i=0\/i=1):L2.atI [a,b] i=some (if i=0 then a else b):=by
 rcases h with h | h <;> subst h <;> rfl
theorem zgh (x:Rat):lf (fr x)=true:=rfl
theorem zgq {hs:List Int} (hl:8<=hs.length):∃ l,Sh5 l/\zfc [.lst (hs.map D.int)]=some (.new (l.map stD)):=by
 have at':∀ (j:Nat) (h:j<8),L2.atI (hs.map D.int) (j:Int)=some (.int (hs[j]'(by omega))):=fun j h=>zaj (by omega)
 obtain⟨h0,a0⟩:∃ h,L2.atI (hs.map D.int) 0=some (.int h):=⟨_,at' 0 (by decide)⟩
 obtain⟨h5,a5⟩:∃ h,L2.atI (hs.map D.int) 5=some (.int h):=⟨_,at' 5 (by decide)⟩
 obtain⟨h6,a6⟩:∃ h,L2.atI (hs.map D.int) 6=some (.int h):=⟨_,at' 6 (by decide)⟩
 obtain⟨h7,a7⟩:∃ h,L2.atI (hs.map D.int) 7=some (.int h):=⟨_,at' 7 (by decide)⟩
 obtain⟨R,hR,rg⟩:=zuw hl
 have nd:=hR.tri.nodup hR.three;have r3:=hR.three;have rf:=hR.few;obtain⟨k,hk⟩:=Lb.lo_ex nd (by omega)
 obtain⟨b,i1,b1,b2⟩:∃ b:Int,L2.atI [D.int 1,D.int (1+h5%1000000000)] (h0/5%2)=some (.int b)/\1<=b/\b<=1000000000:=by
  rw [zpd (by omega)];by_cases z:h0/5%2=0
  ·exact⟨1,by rw [if_pos z],by decide,by decide⟩
  ·exact⟨_,by rw [if_neg z],by omega,by omega⟩
 obtain⟨o,i2,o1,o2⟩:∃ b:Int,L2.atI [D.int 10,D.int 1000000000000000000] (h0/10%2)=some (.int b)/\1<=b/\b<=1000000000000000000:=by
  rw [zpd (by omega)];by_cases z:h0/10%2=0
  ·exact⟨10,by rw [if_pos z],by decide,by decide⟩
  ·exact⟨_,by rw [if_neg z],by decide,by decide⟩
 obtain⟨s,i3,s1,s2⟩:∃ b:Int,L2.atI [D.int 1,D.int (1+h5%6)] (h0/20%2)=some (.int b)/\1<=b/\b<=6:=by
  rw [zpd (by omega)];by_cases z:h0/20%2=0
  ·exact⟨1,by rw [if_pos z],by decide,by decide⟩
  ·exact⟨_,by rw [if_neg z],by omega,by omega⟩
 have f6:0<=h6%o/\h6%o<o:=⟨Wr _ (by omega),Qx _ (by omega)⟩;have f7:0<=h7%o/\h7%o<o:=⟨Wr _ (by omega),Qx _ (by omega)⟩;have s9000:s.natAbs<2^9000:=Zd (show s.natAbs<2^3 by omega) (Gc (by decide));have sz:(1000:Nat)<=PySem.sizeLine:=by decide
 refine⟨(rot R k).map (Lb.spot2 b (h6%o) (h7%o) s),?_,?_⟩
 ·have key:∀ q∈(rot R k).map (Lb.spot2 b (h6%o) (h7%o) s),∃ x y:Int,q.1=Rat.divInt x s/\q.2=Rat.divInt y s/\x.natAbs<2^62/\y.natAbs<2^62:=fun q hq=>by
   obtain⟨p,hp,e⟩:=Zv.mp hq
   have bd:=hR.bd p (rot_mem.mp hp);have mb:∀ x:Int,-4000<=x->x<=4000 -> -4000000000000<=x*b/\x*b<=4000000000000:=fun x z1 z2=>by
    have g1:=W7 z2 (show 0<=b by omega);have g2:=W7 z1 (show 0<=b by omega);omega
   have k1:=mb p.1 bd.1.1 bd.1.2;have k2:=mb p.2 bd.2.1 bd.2.2;have e62:(2:Nat)^62=4611686018427387904:=by decide
   rw [<- e];exact⟨p.1*b+h6%o,p.2*b+h7%o,rfl,rfl,by rw [e62];omega,by rw [e62];omega⟩
  have sb:s.natAbs<2^3:=by omega
  refine⟨Lb.shp2 hR.tri r3 hk b1 s1,by rw [Zc,zcv];exact rf,⟨s,by omega,sb,fun q hq=>⟨key q hq⟩⟩,fun q hq=>?_⟩
  obtain⟨x,y,e1,e2,z1,z2⟩:=key q hq
  exact⟨by rw [e1];exact zir (by omega) z1 sb,by rw [e2];exact zir (by omega) z2 sb⟩
 ·have kr:k<=(R.map pP).length:=by rw [Zc];have:=hk.lt;omega
  have eA:(R.map pP).drop k++(R.map pP).take k=(rot R k).map pP:=by rw [zqb];rfl
  obtain⟨ρ',f,c7,c8,c9,rfl⟩:=zld (bt:=Be (.tup [7,8])) (fb:=exs (tab zcu) zdb) (I:=fun j ρ=>∃ c7 c8 c9,ρ=[some (.sh (.lst (hs.map D.int))),some (.ow (R.map pP)),some (.sh (.int b)),some (.sh (.int o)),some (.sh (.int s)),some (.sh (.int (k:Int))),some (.ow (((rot R k).take j).map fun p=>stD (Lb.spot2 b (h6%o) (h7%o) s p))),c7,c8,c9]) ((rot R k).map pP) 0 [some (.sh (.lst (hs.map D.int))),some (.ow (R.map pP)),some (.sh (.int b)),some (.sh (.int o)),some (.sh (.int s)),some (.sh (.int (k:Int))),some (.ow []),none,none,none] ⟨none,none,none,rfl⟩ fun j d ρ hj hi=>by
   obtain⟨c7,c8,c9,rfl⟩:=hi
   rw [Zi] at hj;obtain⟨p,hp,e⟩:=Zb.mp hj
   subst e;have bd:=hR.bd p (rot_mem.mp (Yh hp));have m1:∀ x:Int,-4000<=x->x<=4000->Gp x b=true:=fun x z1 z2=>Go (by omega) (by omega) (by omega) (by omega)
   refine⟨_,_,rfl,zuk (Γ:=tab zcu) (φ:=zdp) (x:=p.1) (y:=p.2) rfl a6 a7 (by omega) (m1 p.1 bd.1.1 bd.1.2) (m1 p.2 bd.2.1 bd.2.2) (zff (by omega) s9000) (zff (by omega) s9000) (zgh _) (zgh _) (eq_true ?_),some (.sh (.int p.1)),some (.sh (.int p.2)),some (.sh (fr (Rat.divInt (p.1*b+h6%o) s))),?_⟩
   ·rw [Zc,Ww];have:(rot R k).length=R.length:=zcv
    omega
   ·rw [Yv,List.take_succ,hp,Wo];rfl
  rw [Yv,Zc,List.take_length] at f;unfold zfc;rw [Wb];refine yae (Γ:=tab zcu) (φ:=zdp) (ψ:=zfd) (c1:=none) rfl rfl a0 a5 rg (ybz R) i1 i2 i3 (yca hk) (idx_P nd hk.lt) (zhy kr) (cutTo kr) (zlp (by rw [Yc,Ww,Zc];omega)) (by rw [eA];exact ybz _) (by rw [eA];exact f)
open Sf Mg
section
variable {Γ:Nat->List D->Option W}
theorem wide {l:List (Rat×Rat)} (h:IsShp l):(at0 l 0).1<(at0 l 1).1:=by
 have h3:=h.three;have g0:=zcb (l:=l) (i:=0) (by omega);have g1:=zcb (l:=l) (i:=1) (by omega);have g2:=zcb (l:=l) (i:=2) (by omega);have nd:=nodup h;have ne:∀ {i j:Nat} {a b:Rat×Rat},l[i]? = some a->l[j]? = some b->i≠j->a≠b:=fun {i j a b} h1 h2 hij e=>by
  subst e;obtain⟨l1,e1⟩:=Zm.mp h1
  obtain⟨l2,e2⟩:=Zm.mp h2
  exact hij ((Kb nd).mp (e1.trans e2.symm))
 have f1:=h.first 0 _ _ g0 g1;have f2:=h.first 1 _ _ g0 g2;have c:=h.conv 1 _ _ _ (by rw [show 1+l.length-1=l.length by omega,Q9];exact g0) g1 (Yh g2) (ne g2 g0 (by decide)) (ne g2 g1 (by decide));rcases f1 with f | ⟨f,f'⟩
 ·exact f
 ·exfalso
  unfold oR at c;have x2:(at0 l 0).1<=(at0 l 2).1:=by
   rcases f2 with q | ⟨q,_⟩
   ·exact Zr q
   ·rw [q];exact Wp
  have:=Zh (show 0<=(at0 l 1).2-(at0 l 0).2 by grind) (show 0<=(at0 l 2).1-(at0 l 0).1 by grind)
  have e0:(at0 l 1).1-(at0 l 0).1=0:=by grind
  rw [e0,Qq] at c;grind
def wd (l:List (Rat×Rat)):Rat:=(at0 l 1).1-(at0 l 0).1
theorem zin {l:List (Rat×Rat)} (h:IsShp l):0<wd l:=by have:=wide h;unfold wd;grind
def alF (l r:List (Rat×Rat)):Rat:=wd l/wd r
def alP (l r:List (Rat×Rat)):Rat×Rat:=mn (at0 l 0) (sc (alF l r) (at0 r 0))
theorem zti {l r:List (Rat×Rat)} (hl:IsShp l) (hr:IsShp r):0<alF l r:=by
 unfold alF;rw [Yw];exact Z2 (zin hl) (Q5.mpr (zin hr))
theorem al_iff {l r:List (Rat×Rat)} (hl:IsShp l) (hr:IsShp r):(r.map (sc (alF l r))).map (pl (alP l r))=l↔4*(Ar l*Ar r)=(Ar (sumL l r)-(Ar l+Ar r))*(Ar (sumL l r)-(Ar l+Ar r)):=by
 have fp:=zti hl hr;constructor
 ·intro e;have g:=no_gap (x:=alF l r) (p:=alP l r) fp hr;dsimp only at g;rw [e] at g;rw [zhb hl hr,Js (Ar l) (Ar r),Yo (Ar l) (Ar r)];grind
 ·intro e;obtain⟨κ,p,κ0,er⟩:=(zzd hl hr).2 e
  have l3:=hl.three;have m0:∀ i,i<l.length->at0 r i=pl p (sc κ (at0 l i)):=fun i hi=>by
   have:=zcb hi
   have g:r[i]? = some (pl p (sc κ (at0 l i))):=by rw [er,Zi,Zi,this];rfl
   unfold at0;rw [Zk,g];rfl
  have w:wd r=wd l*κ:=by
   unfold wd;rw [m0 0 (by omega),m0 1 (by omega)];unfold pl sc;grind
  have wl:=zin hl;have F:alF l r*κ=1:=by
   unfold alF;rw [w,Yw];have n:wd l*κ≠0:=by have:=Z2 wl κ0;grind
   have:=Wz _ n
   grind
  have P:∀ q:Rat×Rat,pl (alP l r) (sc (alF l r) (pl p (sc κ q)))=q:=fun q=>by
   unfold alP;rw [m0 0 (by omega)];generalize alF l r=f at *;unfold pl mn sc;exact Z5 (by dsimp only;grind) (by dsimp only;grind)
  rw [er,Wb,Wb,Wb];have:(((pl (alP l ((l.map (sc κ)).map (pl p))) ∘ sc (alF l ((l.map (sc κ)).map (pl p)))) ∘ pl p) ∘ sc κ)=id:=by
   funext q
   have:=P q
   rw [er] at this;exact this
  rw [this,List.map_id]
abbrev zdv:List (Nat×(List D->Option W)):=[(20,zoh),(10,Bo),(68,zat),(66,zba)]
def zgt:List D->Option W:=run (tab zdv) zdd 5
theorem ok_alike (h20:Γ 20=zoh) (h10:Γ 10=Bo) (h68:Γ 68=zat) (h66:Γ 66=zba):∀ ds w,ds.length=2->zgt ds=some w->run Γ zdd 5 ds=some w:=fun ds w _ h=>zay zdv (by
 intro p hp;simp only [zdv,Zf,Yj,or_false] at hp;rcases hp with rfl | rfl | rfl | rfl <;> assumption) (by decide) ds w h
theorem ztg {Ov Mi Si Pu:List D->Option W} (h20:Γ 20=Ov) (h10:Γ 10=Mi) (h68:Γ 68=Si) (h66:Γ 66=Pu) {L R G E:List D} {a b x0 y0 x1 y1 u0 v0 u1 v1 g0 k0 f px py:D} {e:Bool} (l0:L2.atI L 0=some (.tup [x0,y0])) (l1:L2.atI L 1=some (.tup [x1,y1])) (r0:L2.atI R 0=some (.tup [u0,v0])) (r1:L2.atI R 1=some (.tup [u1,v1]))
  (m1:Mi [x1,x0]=some (.val a)) (m2:Mi [u1,u0]=some (.val b)) (o:Ov [a,b]=some (.val f)) (si:Si [.lst R,f]=some (.new G)) (gg:L2.atI G 0=some (.tup [g0,k0])) (m3:Mi [x0,g0]=some (.val px)) (m4:Mi [y0,k0]=some (.val py)) (pu:Pu [.lst G,.tup [px,py]]=some (.new E))
  (ce:cmpD .eq (.lst E) (.lst L)=some e) (lf1:lf f=true) (lf2:lfL G=true) (lf3:lf px=true) (lf4:lf py=true):run Γ zdd 5 [.lst L,.lst R]=some (.val (if e=true then .tup [f,.tup [px,py]] else .non)):=by
 unfold zdd;cases e
 ·walk_at "evh"
 ·walk_at "evh"
end
open Sf Mg
section
variable {Γ:Nat->List D->Option W}
theorem st_inj {a b:Rat×Rat} (h:eqD (stD a) (stD b)=true):a=b:=by
 unfold stD fr at h;simp only [eqD,eqL,Zl,beq_iff_eq,and_true] at h;exact Z5 (Rat.ext h.1.1 (by have:=h.1.2;omega)) (Rat.ext h.2.1 (by have:=h.2.2;omega))
theorem zyx:∀ {l r:List (Rat×Rat)},eqL (l.map stD) (r.map stD)=true->l=r
 | [],[],_=>rfl
 | [],_::_,h=>by simp [eqL] at h
 | _::_,[],h=>by simp [eqL] at h
 | a::l,b::r,h=>by
  simp only [Yk,eqL,Zl] at h;rw [st_inj h.1,zyx h.2]
theorem cmp_st (l r:List (Rat×Rat)):cmpD .eq (.lst (l.map stD)) (.lst (r.map stD))=some (decide (l=r)):=by
 show (if (dOkL 49 (l.map stD) && dOkL 49 (r.map stD))=true then some (eqL (l.map stD) (r.map stD)) else none)=_;rw [zju,zju,if_pos (show (true && true)=true from rfl)];congr 1
 by_cases e:l=r
 ·subst e;rw [eqL_self 49 _ (zju _),decide_eq_true rfl]
 ·rw [decide_eq_false e];exact Jq.mpr fun z=>e (zyx z)
theorem zkw {x:Rat} (h:0<x):0<x.num:=by
 refine cast_pos.mp ?_;rw [zmq];exact Z2 h (cast_pos.mpr (Ba _))
theorem zth {l r:List (Rat×Rat)} (hl:IsShp l) (hr:IsShp r) (zl:SzL 165 l) (zr:SzL 165 r) (rl:r.length<=1000) :
  zgt [.lst (l.map stD),.lst (r.map stD)]=some (.val (if decide ((r.map (sc (alF l r))).map (pl (alP l r))=l)=true then .tup [fr (alF l r),stD (alP l r)] else .non)):=by
 have l3:=hl.three;have r3:=hr.three;have zl0:=zl _ (zbf (l:=l) (i:=0) (by omega));have zl1:=zl _ (zbf (l:=l) (i:=1) (by omega));have zr0:=zr _ (zbf (l:=r) (i:=0) (by omega));have zr1:=zr _ (zbf (l:=r) (i:=1) (by omega));have wl:=zin hl;have wr:=zin hr;have sl:Sz 331 (wd l):=zl1.1.sub zl0.1;have sr:Sz 331 (wd r):=zr1.1.sub zr0.1;have fp:=zti hl hr;have wn:wd r≠0:=by grind
 have sf:Sz 662 (alF l r):=sl.div sr wn;have m1:Bo [fr (at0 l 1).1,fr (at0 l 0).1]=some (.val (fr (wd l))):=G0 (Gn zl1.1 zl0.1 (by decide) (by decide));have m2:Bo [fr (at0 r 1).1,fr (at0 r 0).1]=some (.val (fr (wd r))):=G0 (Gn zr1.1 zr0.1 (by decide) (by decide));have o:zoh [fr (wd l),fr (wd r)]=some (.val (fr (alF l r))):=G0 (C:=fun x y=>okRR x y && decide (y≠0)) (g:=fun x y=>fr (x/y)) (by rw [Gn sl sr (by decide) (by decide),decide_eq_true wn];rfl);have si:zat [.lst (r.map stD),fr (alF l r)]=some (.new ((r.map (sc (alF l r))).map stD)):=zet rl (fun q hq=>⟨(zr q hq).1.mono (by decide),(zr q hq).2.mono (by decide)⟩) (sf.mono (by decide)) (zkw fp);have zg:SzL 827 (r.map (sc (alF l r))):=fun q hq=>by
  obtain⟨z,hz,e⟩:=Zv.mp hq
  rw [<- e];exact⟨(zr z hz).1.mul sf,(zr z hz).2.mul sf⟩
 have g0:at0 (r.map (sc (alF l r))) 0=sc (alF l r) (at0 r 0):=zln (by omega);have zg0:=zg _ (zbf (l:=r.map (sc (alF l r))) (i:=0) (by rw [Zc];omega));rw [g0] at zg0;have m3:Bo [fr (at0 l 0).1,fr (sc (alF l r) (at0 r 0)).1]=some (.val (fr (alP l r).1)):=G0 (Gn zl0.1 zg0.1 (by decide) (by decide));have m4:Bo [fr (at0 l 0).2,fr (sc (alF l r) (at0 r 0)).2]=some (.val (fr (alP l r).2)):=G0 (Gn zl0.2 zg0.2 (by decide) (by decide));have zp:Sz 993 (alP l r).1/\Sz 993 (alP l r).2:=⟨zl0.1.sub zg0.1,zl0.2.sub zg0.2⟩;have pu:=zgr (l:=r.map (sc (alF l r))) (by rw [Zc];exact rl) zg zp;rw [zxu] at pu;have gg:=zsy (l:=r.map (sc (alF l r))) (k:=0) (by rw [Zc];omega);rw [show (r.map (sc (alF l r))).getD 0 (0,0)=sc (alF l r) (at0 r 0) from g0] at gg;unfold zgt;exact ztg (Γ:=tab zdv) (Ov:=zoh) (Mi:=Bo) (Si:=zat) (Pu:=zba) rfl rfl rfl rfl (zsy (l:=l) (k:=0) (by omega)) (zsy (l:=l) (k:=1) (by omega)) (zsy (l:=r) (k:=0) (by omega)) (zsy (l:=r) (k:=1) (by omega)) m1 m2 o si gg m3 m4 pu (cmp_st _ _) (zgh _) (zby _) (zgh _) (zgh _)
abbrev zbg:List (Nat×(List D->Option W)):=[(108,zfe),(58,Bj),(82,zaz)]
def zal:List D->Option W:=run (tab zbg) Bc 3
theorem ok_law_surplus (h108:Γ 108=zfe) (h58:Γ 58=Bj) (h82:Γ 82=zaz):∀ ds w,ds.length=2->zal ds=some w->run Γ Bc 3 ds=some w:=fun ds w _ h=>zay zbg (by
 intro p hp;simp only [zbg,Zf,Yj,or_false] at hp;rcases hp with rfl | rfl | rfl <;> assumption) (by decide) ds w h
theorem zkm {Pl Db Su:List D->Option W} (h108:Γ 108=Pl) (h58:Γ 58=Db) (h82:Γ 82=Su) {L R F:List D} {a b c v:D} {x y z:Int} (d1:Db [.lst L]=some (.val a)) (d2:Db [.lst R]=some (.val b)) (p1:Pl [a,b]=some (.val (.tup [.int x,.int y]))) (su:Su [.lst L,.lst R]=some (.new F)) (d3:Db [.lst F]=some (.val c))
  (ez:0-x=z) (p2:Pl [c,.tup [.int z,.int y]]=some (.val v)):run Γ Bc 3 [.lst L,.lst R]=some (.val v):=by
 unfold Bc;walk_at "evh"
structure Kx (l:List (Rat×Rat)):Prop where
 sh:IsShp l
 zl:SzL 165 l
 ln:l.length<=100
 ov:∃ d:Int,d≠0/\d.natAbs<2^20/\∀ q∈l,Ov d 90 q
def gapV (l r:List (Rat×Rat)):Rat:=Ar (sumL l r)-(Ar l+Ar r)
theorem zmv {l:List (Rat×Rat)} (h:Kx l):Bj [.lst (l.map stD)]=some (.val (fr (Ar l)))/\Sz 410 (Ar l):=by
 obtain⟨d,d0,d1,ho⟩:=h.ov
 have l3:=h.sh.three;have ln:=h.ln;have s:=ov_sz ho d0 d1 (by omega) (show 90+90+10<=410 by decide) (show 20+20<=410 by decide);exact⟨zsb (by omega) (by omega) (fun q hq=>⟨(h.zl q hq).1.mono (by decide),(h.zl q hq).2.mono (by decide)⟩) s,s l.length (Zj _)⟩
theorem zer {l r:List (Rat×Rat)} (hl:Kx l) (hr:Kx r):zal [.lst (l.map stD),.lst (r.map stD)]=some (.val (fr (gapV l r)))/\Sz 1300 (gapV l r):=by
 obtain⟨d1,z1⟩:=zmv hl
 obtain⟨d2,z2⟩:=zmv hr
 obtain⟨d,d0,db,ho⟩:=hl.ov
 obtain⟨e,e0,eb,hp⟩:=hr.ov
 have l3:=hl.sh.three;have r3:=hr.sh.three;have ll:=hl.ln;have rl:=hr.ln;have s3:=(sumN hl.sh hr.sh).three;have sl:=zzx l r;have os:∀ q∈sumL l r,Ov (d*e) 111 q:=fun q hq=>by
  obtain⟨u,hu,v,hv,eq⟩:=zzv (by omega) (by omega) hq
  rw [eq];exact (ho u hu).pl (hp v hv) d0 e0 db eb (by decide) (by decide)
 have zs:=ov_sz os (Zz d0 e0) (B8 db eb (Zj _)) (by omega) (show 111+111+10<=410 by decide) (show (20+20)+(20+20)<=410 by decide);have z3:=zs _ (Zj _);have zl:SzL 300 (sumL l r):=fun q hq=>by
  obtain⟨x,y,e1,e2,b1,b2⟩:=(os q hq).ex
  have n0:=Zz d0 e0;have nb:(d*e).natAbs<2^300:=Zd (B8 db eb (Zj _)) (Gc (by decide));exact⟨by rw [e1];exact zeq n0 (Zd b1 (Gc (by decide))) nb,by rw [e2];exact zeq n0 (Zd b2 (Gc (by decide))) nb⟩
 have d3:=zsb (l:=sumL l r) (by omega) (by omega) zl zs;have z4:=z1.add z2;have z5:=z3.sub z4;have p1:zfe [fr (Ar l),fr (Ar r)]=some (.val (fr (Ar l+Ar r))):=G0 (Gn z1 z2 (by decide) (by decide));have p2:zfe [fr (Ar (sumL l r)),fr (-(Ar l+Ar r))]=some (.val (fr (Ar (sumL l r) + -(Ar l+Ar r)))):=G0 (Gn z3 z4.neg (by decide) (by decide));rw [<- Jk] at p2;refine⟨?_,z5.mono (by decide)⟩
 unfold zal;exact zkm (Γ:=tab zbg) (Pl:=zfe) (Db:=Bj) (Su:=zaz) rfl rfl rfl d1 d2 p1 (su_int hl.sh hr.sh hl.zl hr.zl (by omega) (by omega)) d3 (show 0-(Ar l+Ar r).num=(-(Ar l+Ar r)).num by show 0-(Ar l+Ar r).num = -(Ar l+Ar r).num;omega) p2
end
open Sf Mg
section
variable {Γ:Nat->List D->Option W}
section
variable {Nu Sh Fr Pu Si Sr Ti Db Le Al:List D->Option W} (h102:Γ 102=Nu) (h47:Γ 47=Sh) (h103:Γ 103=Fr) (h66:Γ 66=Pu) (h68:Γ 68=Si) (h137:Γ 137=Sr) (h74:Γ 74=Ti) (h58:Γ 58=Db) (h110:Γ 110=Le) (h132:Γ 132=Al)
 {NS HS H8 L1 R0 R LS RS:List D} {g k:Int} {f v a b x y z w o:D} {e:Bool}
 (n:Nu [.lst NS,.int 18]=some (.new HS)) (lh:lfL HS=true) (s1:Sh [.lst HS]=some (.new L1)) (l1:lfL L1=true) (ct:cutD HS (some 8) none=H8) (s2:Sh [.lst H8]=some (.new R0)) (l2:lfL R0=true)
 (a16:L2.atI HS 16=some (.int g)) (a17:L2.atI HS 17=some (.int k)) (fa:Fr [.int (1+g%9),.int (1+k%9)]=some (.val f)) (lff:lf f=true)
 (sr:Sr [.lst L1,.lst R]=some (.val v)) (lv:lf v=true) (sq:Ti [v,v]=some (.val a)) (la:lf a=true) (d1:Db [.lst L1]=some (.val x)) (d2:Db [.lst R]=some (.val y)) (t2:Ti [x,y]=some (.val z)) (t3:Ti [.tup [.int 4,.int 1],z]=some (.val b)) (lb:lf b=true)
 (le:Le [a,b]=some (.val (.bl false))) (ceq:cmpD .eq a b=some e) (al:Al [.lst L1,.lst R]=some (.val o)) (no:(!zdq o)=e) (si:Si [.lst R,f]=some (.new RS)) (sw:Sr [.lst L1,.lst RS]=some (.val w)) (tw:Ti [v,f]=some (.val w)) (cw:cmpD .eq w w=some true)
include h102 h47 h103 h66 h68 h137 h74 h58 h110 h132 n lh s1 l1 ct s2 l2 a16 a17 fa lff sr lv sq la d1 d2 t2 t3 lb le ceq al no si sw tw cw
theorem ycd (c:decide (g/9%3=1)=false) (eR:R=R0):run Γ G4 8 [.lst NS]=some (.val (.bl true)):=by
 subst eR;unfold zdq at no;unfold G4;walk_at "evh"
theorem ycc (c:decide (g/9%3=1)=true) (z1:Si [.lst L1,f]=some (.new LS)) (pu:Pu [.lst LS,.tup [.tup [.int (k%101),.int 1],.tup [.int (g%101),.int 1]]]=some (.new R)) (l3:lfL R=true):run Γ G4 8 [.lst NS]=some (.val (.bl true)):=by
 unfold zdq at no;unfold G4;walk_at "evh"
end
theorem Sh5.kx {l:List (Rat×Rat)} (h:Sh5 l):Kx l:=by
 obtain⟨s,s0,s1,ho⟩:=h.ov
 refine⟨h.shp,h.sy.sz (by decide) (by decide),by have:=h.few;omega,s,s0,Zd s1 (Gc (by decide)),fun q hq=>?_⟩
 obtain⟨x,y,e1,e2,b1,b2⟩:=(ho q hq).ex
 exact⟨⟨x,y,e1,e2,Zd b1 (Gc (by decide)),Zd b2 (Gc (by decide))⟩⟩
theorem zri {l:List (Rat×Rat)} {d:Int} {B m:Nat} (hs:IsShp l) (ln:l.length<=100) (d0:d≠0) (db:d.natAbs<2^m) (ho:∀ q∈l,Ov d B q) {x:Rat} (zx:Sy 4 4 x) (x0:0<x) (hm:m+4<=20) (hB:B+4<=90):Kx (l.map (sc x)):=by
 have on:∀ q∈l.map (sc x),Ov (d*(x.den:Int)) 90 q:=fun q hq=>by
  obtain⟨z,hz,e⟩:=Zv.mp hq
  rw [<- e];exact (ho z hz).sc zx hB
 have n0:=Zz d0 (zry x);have nb:(d*(x.den:Int)).natAbs<2^20:=B8 db (show ((x.den:Nat):Int).natAbs<2^4 from zx.b) hm;refine⟨Mg.IsShp.sized hs x0,fun q hq=>?_,by rw [Zc];exact ln,_,n0,nb,on⟩
 obtain⟨y,z,e1,e2,b1,b2⟩:=(on q hq).ex
 have nb2:(d*(x.den:Int)).natAbs<2^165:=Zd nb (Gc (by decide));exact⟨by rw [e1];exact zeq n0 (Zd b1 (Gc (by decide))) nb2,by rw [e2];exact zeq n0 (Zd b2 (Gc (by decide))) nb2⟩
theorem div_1 (i:Int):(i:Rat)=Rat.divInt i 1:=by rw [Y6,Yw];show (i:Rat)=(i:Rat)*(1:Rat)⁻¹;grind
theorem zyq (i:Int):D.tup [.int i,.int 1]=fr (i:Rat):=by
 unfold fr;rw [Rat.num_intCast,Rat.den_intCast];rfl
theorem zxl {i:Int} {n:Nat} (h:i.natAbs<2^n):Sy n 1 (i:Rat):=⟨by rw [Rat.num_intCast];exact h,by rw [Rat.den_intCast];decide⟩
theorem zwe {hs:List Int} {k:Nat} (h:k<=hs.length):cutD (hs.map D.int) (some (k:Int)) none=(hs.drop k).map D.int:=by
 rw [zhy (by rw [Zc];exact h),K0]
theorem zyr (x y:Rat):cmpD .eq (fr x) (fr y)=some (decide (x=y)):=fr_eqd x y
theorem law52 (h102:Γ 102=zck) (h47:Γ 47=zfc) (h103:Γ 103=zdp) (h66:Γ 66=zba) (h68:Γ 68=zat) (h137:Γ 137=zal) (h74:Γ 74=B4) (h58:Γ 58=Bj) (h110:Γ 110=zjk) (h132:Γ 132=zgt) (ns:List Int) (hn:ns.length<=63):run Γ G4 8 [.lst (ns.map D.int)]=some (.val (.bl true)):=by
 obtain⟨hs,hl,hb,hN⟩:=zkv ns hn 18 (by decide) (by decide)
 rw [show ((18:Nat):Int)=18 from rfl] at hN;obtain⟨l,Sl,e1⟩:=zgq (hs:=hs) (by omega)
 obtain⟨r0,Sr,e2⟩:=zgq (hs:=hs.drop 8) (by rw [Yc];omega)
 obtain⟨g,a16⟩:∃ g,L2.atI (hs.map D.int) 16=some (.int g):=⟨_,zaj (hs:=hs) (j:=16) (by omega)⟩
 obtain⟨k,a17⟩:∃ g,L2.atI (hs.map D.int) 17=some (.int g):=⟨_,zaj (hs:=hs) (j:=17) (by omega)⟩
 have nb:0<1+k%9:=by omega
 have fa:zdp [.int (1+g%9),.int (1+k%9)]=some (.val (fr (Rat.divInt (1+g%9) (1+k%9)))):=zff nb (Zd (show (1+k%9).natAbs<2^4 by omega) (Gc (by decide)));have zx:Sy 4 4 (Rat.divInt (1+g%9) (1+k%9)):=zir (by omega) (by omega) (by omega);have x0:0<Rat.divInt (1+g%9) (1+k%9):=by
  rw [Y6,Yw];exact Z2 (cast_pos.mpr (by omega)) (Q5.mpr (cast_pos.mpr nb))
 generalize Rat.divInt (1+g%9) (1+k%9)=x at *;have Kl:=Sl.kx;obtain⟨s,s0,sb,so⟩:=Sl.ov
 have lf_:=Sl.few;have zx2:Sz 2000 x:=zx.sz (by decide) (by decide);have fin:∀ r:List (Rat×Rat),Kx r->Kx (r.map (sc x))->(∀ (v a b X Y z w o:D) (e:Bool) (RS:List D),zal [.lst (l.map stD),.lst (r.map stD)]=some (.val v)->lf v=true->B4 [v,v]=some (.val a)->lf a=true->Bj [.lst (l.map stD)]=some (.val X)->Bj [.lst (r.map stD)]=some (.val Y)->B4 [X,Y]=some (.val z)->B4 [.tup [.int 4,.int 1],z]=some (.val b)->lf b=true->zjk [a,b]=some (.val (.bl false))->cmpD .eq a b=some e->zgt [.lst (l.map stD),.lst (r.map stD)]=some (.val o)->(!zdq o)=e->zat [.lst (r.map stD),fr x]=some (.new RS)->zal [.lst (l.map stD),.lst RS]=some (.val w)->B4 [v,fr x]=some (.val w)->cmpD .eq w w=some true->run Γ G4 8 [.lst (ns.map D.int)]=some (.val (.bl true)))->run Γ G4 8 [.lst (ns.map D.int)]=some (.val (.bl true)):=fun r Kr Kx' go=>by
  obtain⟨q1,zv⟩:=zer Kl Kr
  obtain⟨q2,_⟩:=zer Kl Kx'
  obtain⟨d1,z1⟩:=zmv Kl
  obtain⟨d2,z2⟩:=zmv Kr
  have z4:Sz 3 (4:Rat):=⟨by decide,by decide⟩;have zz:=z1.mul z2;have zb:=z4.mul zz;have za:=zv.mul zv;have t1:B4 [fr (gapV l r),fr (gapV l r)]=some (.val (fr (gapV l r*gapV l r))):=G0 (Gn zv zv (by decide) (by decide));have t2:B4 [fr (Ar l),fr (Ar r)]=some (.val (fr (Ar l*Ar r))):=G0 (Gn z1 z2 (by decide) (by decide));have t3:B4 [fr 4,fr (Ar l*Ar r)]=some (.val (fr (4*(Ar l*Ar r)))):=G0 (Gn z4 zz (by decide) (by decide));have t4:B4 [fr (gapV l r),fr x]=some (.val (fr (gapV l r*x))):=G0 (Gn zv zx2 (by decide) (by decide));have le:zjk [fr (gapV l r*gapV l r),fr (4*(Ar l*Ar r))]=some (.val (.bl (decide (gapV l r*gapV l r<4*(Ar l*Ar r))))):=G0 (Gn za zb (by decide) (by decide));have ar:=(zzd Kl.sh Kr.sh).1;rw [decide_eq_false (show ¬ gapV l r*gapV l r<4*(Ar l*Ar r) from Rat.not_lt.mpr ar)] at le;have al:=zth Kl.sh Kr.sh Kl.zl Kr.zl (by have:=Kr.ln;omega);have ai:=al_iff Kl.sh Kr.sh;have gs:=gap_sc Kl.sh Kr.sh x0;have gx:gapV l (r.map (sc x))=gapV l r*x:=by unfold gapV;rw [gs];exact Js _ _
  rw [gx] at q2;have si:zat [.lst (r.map stD),fr x]=some (.new ((r.map (sc x)).map stD)):=zet (by have:=Kr.ln;omega) (fun q hq=>⟨(Kr.zl q hq).1.mono (by decide),(Kr.zl q hq).2.mono (by decide)⟩) zx2 (zkw x0);refine go _ _ _ _ _ _ _ _ (decide (gapV l r*gapV l r=4*(Ar l*Ar r))) _ q1 (zgh _) t1 (zgh _) d1 d2 t2 t3 (zgh _) le (zyr _ _) al ?_ si q2 t4 (by rw [zyr,decide_eq_true rfl]);by_cases c:(r.map (sc (alF l r))).map (pl (alP l r))=l
  ·rw [decide_eq_true c,decide_eq_true (show gapV l r*gapV l r=4*(Ar l*Ar r) from (ai.mp c).symm)];rfl
  ·rw [decide_eq_false c,decide_eq_false (fun z=>c (ai.mpr (show _=gapV l r*gapV l r from z.symm)))];rfl
 have ct:cutD (hs.map D.int) (some 8) none=(hs.drop 8).map D.int:=zwe (k:=8) (by omega);by_cases c:g/9%3=1
 ·-- the first,sized and pushed
  have gp:(g%101).natAbs<2^7:=by omega
  have kp:(k%101).natAbs<2^7:=by omega
  have sg:=zxl gp;have sk:=zxl kp;have on:∀ q∈(l.map (sc x)).map (pl (((k%101:Int):Rat),((g%101:Int):Rat))),Ov (1*(s*(x.den:Int))) 72 q:=fun q hq=>by
   obtain⟨w,hw,e⟩:=Zv.mp hq
   obtain⟨w',hw',e'⟩:=Zv.mp hw
   rw [<- e,<- e'];exact Ov.pl (B:=7) (C:=66) (m:=1) (n:=7) ⟨⟨k%101,g%101,div_1 _,div_1 _,kp,gp⟩⟩ ((so w' hw').sc zx (k:=66) (by decide)) (by decide) (Zz s0 (zry x)) (by decide) (B8 sb (show ((x.den:Nat):Int).natAbs<2^4 from zx.b) (by decide)) (by decide) (by decide)
  have n0:(1:Int)*(s*(x.den:Int))≠0:=Zz (by decide) (Zz s0 (zry x));have nb':((1:Int)*(s*(x.den:Int))).natAbs<2^7:=by rw [Int.one_mul];exact B8 sb (show ((x.den:Nat):Int).natAbs<2^4 from zx.b) (by decide)
  have hS:=Mg.IsShp.pushed (Mg.IsShp.sized Sl.shp x0) (((k%101:Int):Rat),((g%101:Int):Rat));have zr:SzL 165 ((l.map (sc x)).map (pl (((k%101:Int):Rat),((g%101:Int):Rat)))):=fun q hq=>by
   obtain⟨y,z,e1,e2,b1,b2⟩:=(on q hq).ex
   have nb2:=Zd nb' (Gc (show 7<=165 by decide));exact⟨by rw [e1];exact zeq n0 (Zd b1 (Gc (by decide))) nb2,by rw [e2];exact zeq n0 (Zd b2 (Gc (by decide))) nb2⟩
  have ln:((l.map (sc x)).map (pl (((k%101:Int):Rat),((g%101:Int):Rat)))).length<=100:=by rw [Zc,Zc];omega
  have Kr:Kx ((l.map (sc x)).map (pl (((k%101:Int):Rat),((g%101:Int):Rat)))):=⟨hS,zr,ln,_,n0,Zd nb' (Gc (by decide)),fun q hq=>by
   obtain⟨y,z,e1,e2,b1,b2⟩:=(on q hq).ex
   exact⟨⟨y,z,e1,e2,Zd b1 (Gc (by decide)),Zd b2 (Gc (by decide))⟩⟩⟩
  have z1:zat [.lst (l.map stD),fr x]=some (.new ((l.map (sc x)).map stD)):=zet (by omega) (Sl.sy.sz (by decide) (by decide)) zx2 (zkw x0);have pu:=zgr (l:=l.map (sc x)) (p:=(((k%101:Int):Rat),((g%101:Int):Rat))) (by rw [Zc];omega) ((Sl.sy.size zx).sz (n:=100) (by decide) (by decide)) ⟨sk.sz (n:=100) (by decide) (by decide),sg.sz (by decide) (by decide)⟩;rw [zxu] at pu;refine fin _ Kr (zri hS ln n0 nb' on zx x0 (by decide) (by decide)) fun v a b X Y z w o e RS i1 i2 i3 i4 i5 i6 i7 i8 i9 j1 j2 j3 j4 j5 j6 j7 j8=>?_;exact ycc h102 h47 h103 h66 h68 h137 h74 h58 h110 h132 hN (zhn _) e1 (zby _) ct e2 (zby _) a16 a17 fa (zgh _) i1 i2 i3 i4 i5 i6 i7 i8 i9 j1 j2 j3 j4 j5 j6 j7 j8 (decide_eq_true c) z1 (by rw [zyq,zyq];exact pu) (zby _)
 ·obtain⟨t,t0,tb,to⟩:=Sr.ov
  refine fin r0 Sr.kx (zri Sr.shp (by have:=Sr.few;omega) t0 tb to zx x0 (by decide) (by decide)) fun v a b X Y z w o e RS i1 i2 i3 i4 i5 i6 i7 i8 i9 j1 j2 j3 j4 j5 j6 j7 j8=>?_;exact ycd h102 h47 h103 h66 h68 h137 h74 h58 h110 h132 hN (zhn _) e1 (zby _) ct e2 (zby _) a16 a17 fa (zgh _) i1 i2 i3 i4 i5 i6 i7 i8 i9 j1 j2 j3 j4 j5 j6 j7 j8 (decide_eq_false c) rfl
end
end DL
namespace LW
open DL
def Γ:Nat → List D → Option W
 | 0=>Gz
 | 1=>zdh
 | 9=>zau
 | 10=>Bo
 | 11=>Bl
 | 12=>Gz
 | 20=>zoh
 | 40=>zfb
 | 41=>zas
 | 42=>zcj
 | 43=>zkz
 | 46=>zfd
 | 47=>zfc
 | 58=>Bj
 | 66=>zba
 | 67=>zbb
 | 68=>zat
 | 74=>B4
 | 81=>zfg
 | 82=>zaz
 | 83=>zjl
 | 102=>zck
 | 103=>zdp
 | 105=>zgg
 | 108=>zfe
 | 110=>zjk
 | 132=>zgt
 | 137=>zal
 | _=>fun _=>none
theorem ok_law_numbers:∀ ds w,ds.length=2 → Γ 102 ds=some w → run Γ Br 6 ds=some w:=by apply DL.ok_law_numbers <;> rfl
theorem ok_law_bows_k32:∀ ds w,ds.length=1 → Γ 105 ds=some w → run Γ Bh 5 ds=some w:=by apply DL.ok_law_bows_k32 <;> rfl
theorem ok_law_ring_k31:∀ ds w,ds.length=1 → Γ 46 ds=some w → run Γ Bg 7 ds=some w:=by apply DL.ok_law_ring_k31 <;> rfl
theorem ok_law_divisor:∀ ds w,ds.length=2 → Γ 12 ds=some w → run Γ B0 2 ds=some w:=by apply DL.ok_law_divisor <;> rfl
theorem ok_law_fraction:∀ ds w,ds.length=2 → Γ 103 ds=some w → run Γ Bv 3 ds=some w:=by apply DL.ok_law_fraction <;> rfl
theorem ok_law_shape_k31:∀ ds w,ds.length=1 → Γ 47 ds=some w → run Γ Bb 10 ds=some w:=by apply DL.ok_law_shape_k31 <;> rfl
theorem ok_divisor:∀ ds w,ds.length=2 → Γ 0 ds=some w → run Γ zcr 5 ds=some w:=by apply DL.ok_divisor <;> rfl
theorem ok_plus:∀ ds w,ds.length=2 → Γ 9 ds=some w → run Γ zno 5 ds=some w:=by apply DL.ok_plus <;> rfl
theorem ok_added:∀ ds w,ds.length=2 → Γ 67 ds=some w → run Γ zfx 2 ds=some w:=by apply DL.ok_added <;> rfl
theorem ok_pushed:∀ ds w,ds.length=2 → Γ 66 ds=some w → run Γ zbn 2 ds=some w:=by apply DL.ok_pushed <;> rfl
theorem ok_ratio:∀ ds w,ds.length=2 → Γ 1 ds=some w → run Γ zik 3 ds=some w:=by apply DL.ok_ratio <;> rfl
theorem ok_times:∀ ds w,ds.length=2 → Γ 11 ds=some w → run Γ zij 2 ds=some w:=by apply DL.ok_times <;> rfl
theorem ok_sized:∀ ds w,ds.length=2 → Γ 68 ds=some w → run Γ zdc 2 ds=some w:=by apply DL.ok_sized <;> rfl
theorem ok_law_plus:∀ ds w,ds.length=2 → Γ 108 ds=some w → run Γ zbo 2 ds=some w:=by apply DL.ok_law_plus <;> rfl
theorem ok_steps:∀ ds w,ds.length=1 → Γ 41 ds=some w → run Γ zfv 1 ds=some w:=by apply DL.ok_steps <;> rfl
theorem ok_minus:∀ ds w,ds.length=2 → Γ 10 ds=some w → run Γ zil 2 ds=some w:=by apply DL.ok_minus <;> rfl
theorem ok_doubled:∀ ds w,ds.length=1 → Γ 58 ds=some w → run Γ zbe 5 ds=some w:=by apply DL.ok_doubled <;> rfl
theorem ok_lowest_whole:∀ ds w,ds.length=1 → Γ 43 ds=some w → run Γ G6 6 ds=some w:=by apply DL.ok_lowest_whole <;> rfl
theorem ok_side_between:∀ ds w,ds.length=2 → Γ 42 ds=some w → run Γ Bf 5 ds=some w:=by apply DL.ok_side_between <;> rfl
theorem ok_sides_of:∀ ds w,ds.length=1 → Γ 40 ds=some w → run Γ B2 1 ds=some w:=by apply DL.ok_sides_of <;> rfl
theorem ok_cross:∀ ds w,ds.length=2 → Γ 81 ds=some w → run Γ zfw 2 ds=some w:=by apply DL.ok_cross <;> rfl
theorem ok_next_bend:∀ ds w,ds.length=2 → Γ 83 ds=some w → run Γ Gv 2 ds=some w:=by apply DL.ok_next_bend <;> rfl
theorem ok_summed:∀ ds w,ds.length=2 → Γ 82 ds=some w → run Γ zcq 8 ds=some w:=by apply DL.ok_summed <;> rfl
theorem ok_law_surplus:∀ ds w,ds.length=2 → Γ 137 ds=some w → run Γ Bc 3 ds=some w:=by apply DL.ok_law_surplus <;> rfl
theorem ok_law_times_k31:∀ ds w,ds.length=2 → Γ 74 ds=some w → run Γ Bq 2 ds=some w:=by apply DL.ok_law_times_k31 <;> rfl
theorem ok_law_less:∀ ds w,ds.length=2 → Γ 110 ds=some w → run Γ zbp 2 ds=some w:=by apply DL.ok_law_less <;> rfl
theorem ok_over:∀ ds w,ds.length=2 → Γ 20 ds=some w → run Γ znp 2 ds=some w:=by apply DL.ok_over <;> rfl
theorem ok_alike:∀ ds w,ds.length=2 → Γ 132 ds=some w → run Γ zdd 5 ds=some w:=by apply DL.ok_alike <;> rfl
theorem zvq:∀ ns:List Int,ns.length ≤ 63 → run Γ G4 8 [.lst (ns.map D.int)]=some (.val (.bl true)):=by
 intro ns hn;apply DL.law52 <;> first | rfl | exact hn
end LW
namespace LW
open PySem L2 DL
def top (i:Nat):Stmt:=PySem.Challenge.pw_snugfit_k52_whole_areas_of_sums.main.body.getD i (.Pass ⟨0,0,0,0⟩)
theorem bnd1 {x:Str} {st:Stmt} {p0:Str} (h:∀ (kV doc pm:Value) (an:Option Addr) (cdv ct:Value) (a0:Value),bindArgs (PySem.W.fnOf x x (zap st) (Gb st) (V7 st) .none kV doc pm an cdv ct) ⟨[a0],[]⟩=pure ([p0].zip [a0])):Bnd x st [p0]:=fun kV doc pm an cdv ct us hl=>by
 cases us with
 | nil=>cases hl
 | cons a0 r0=>
  cases r0 with
  | nil=>exact h kV doc pm an cdv ct a0
  | cons _ _=>cases hl
theorem bnd2 {x:Str} {st:Stmt} {p0 p1:Str} (h:∀ (kV doc pm:Value) (an:Option Addr) (cdv ct:Value) (a0 a1:Value),bindArgs (PySem.W.fnOf x x (zap st) (Gb st) (V7 st) .none kV doc pm an cdv ct) ⟨[a0,a1],[]⟩=pure ([p0,p1].zip [a0,a1])):Bnd x st [p0,p1]:=fun kV doc pm an cdv ct us hl=>by
 cases us with
 | nil=>cases hl
 | cons a0 r0=>
  cases r0 with
  | nil=>cases hl
  | cons a1 r1=>
   cases r1 with
   | nil=>exact h kV doc pm an cdv ct a0 a1
   | cons _ _=>cases hl
theorem zge:FnScope ["_law_script", "_law_many", "_law_k", "_law_found", "_law_cell", "_law_at"] ["_law_script", "_law_many"] (V7 (top 27)):=⟨rfl,rfl,rfl,by decide +kernel,rfl,by decide +kernel,by decide +kernel⟩
theorem zgl:Bnd "_law_numbers" (top 27) ["_law_script", "_law_many"]:=bnd2 fun _ _ _ _ _ _ _ _=>rfl
theorem zey:FnScope ["_law_head", "_law_lows", "_law_k", "_law_highs", "_law_top"] ["_law_head"] (V7 (top 30)):=⟨rfl,rfl,rfl,by decide +kernel,rfl,by decide +kernel,by decide +kernel⟩
theorem zfu:Bnd "_law_bows" (top 30) ["_law_head"]:=bnd1 fun _ _ _ _ _ _ _=>rfl
theorem zew:FnScope ["_law_head", "_law_u", "_law_v", "_law_both", "_law_way", "_law_far", "_law_back"] ["_law_head"] (V7 (top 31)):=⟨rfl,rfl,rfl,by decide +kernel,rfl,by decide +kernel,by decide +kernel⟩
theorem zfs:Bnd "_law_ring" (top 31) ["_law_head"]:=bnd1 fun _ _ _ _ _ _ _=>rfl
theorem zgf:FnScope ["_law_one", "_law_other"] ["_law_one", "_law_other"] (V7 (top 28)):=⟨rfl,rfl,rfl,by decide +kernel,rfl,by decide +kernel,by decide +kernel⟩
theorem zgm:Bnd "_law_divisor" (top 28) ["_law_one", "_law_other"]:=bnd2 fun _ _ _ _ _ _ _ _=>rfl
theorem zex:FnScope ["_law_top", "_law_bottom", "_law_most"] ["_law_top", "_law_bottom"] (V7 (top 29)):=⟨rfl,rfl,rfl,by decide +kernel,rfl,by decide +kernel,by decide +kernel⟩
theorem zft:Bnd "_law_fraction" (top 29) ["_law_top", "_law_bottom"]:=bnd2 fun _ _ _ _ _ _ _ _=>rfl
theorem zdo:FnScope ["_law_head", "_law_ring_here", "_law_by", "_law_off", "_law_share", "_law_at", "_law_found", "_law_x", "_law_y", "_law_right"] ["_law_head"] (V7 (top 32)):=⟨rfl,rfl,rfl,by decide +kernel,rfl,by decide +kernel,by decide +kernel⟩
theorem zds:Bnd "_law_shape" (top 32) ["_law_head"]:=bnd1 fun _ _ _ _ _ _ _=>rfl
theorem zoe:FnScope ["one", "other", "great", "small", "rest"] ["one", "other"] (V7 (top 5)):=⟨rfl,rfl,rfl,by decide +kernel,rfl,by decide +kernel,by decide +kernel⟩
theorem zot:Bnd "divisor" (top 5) ["one", "other"]:=bnd2 fun _ _ _ _ _ _ _ _=>rfl
theorem yaj:FnScope ["one", "other", "shared", "top", "rest"] ["one", "other"] (V7 (top 7)):=⟨rfl,rfl,rfl,by decide +kernel,rfl,by decide +kernel,by decide +kernel⟩
theorem ydt:Bnd "plus" (top 7) ["one", "other"]:=bnd2 fun _ _ _ _ _ _ _ _=>rfl
theorem zut:FnScope ["one", "other"] ["one", "other"] (V7 (top 20)):=⟨rfl,rfl,rfl,by decide +kernel,rfl,by decide +kernel,by decide +kernel⟩
theorem zxg:Bnd "added" (top 20) ["one", "other"]:=bnd2 fun _ _ _ _ _ _ _ _=>rfl
theorem zqa:FnScope ["shape", "push"] ["shape", "push"] (V7 (top 19)):=⟨rfl,rfl,rfl,by decide +kernel,rfl,by decide +kernel,by decide +kernel⟩
theorem zsx:Bnd "pushed" (top 19) ["shape", "push"]:=bnd2 fun _ _ _ _ _ _ _ _=>rfl
theorem zup:FnScope ["top", "bottom", "shared"] ["top", "bottom"] (V7 (top 6)):=⟨rfl,rfl,rfl,by decide +kernel,rfl,by decide +kernel,by decide +kernel⟩
theorem zxc:Bnd "ratio" (top 6) ["top", "bottom"]:=bnd2 fun _ _ _ _ _ _ _ _=>rfl
theorem zum:FnScope ["one", "other"] ["one", "other"] (V7 (top 9)):=⟨rfl,rfl,rfl,by decide +kernel,rfl,by decide +kernel,by decide +kernel⟩
theorem zwz:Bnd "times" (top 9) ["one", "other"]:=bnd2 fun _ _ _ _ _ _ _ _=>rfl
theorem zuo:FnScope ["shape", "factor"] ["shape", "factor"] (V7 (top 21)):=⟨rfl,rfl,rfl,by decide +kernel,rfl,by decide +kernel,by decide +kernel⟩
theorem zxb:Bnd "sized" (top 21) ["shape", "factor"]:=bnd2 fun _ _ _ _ _ _ _ _=>rfl
theorem zko:FnScope ["_law_one", "_law_other"] ["_law_one", "_law_other"] (V7 (top 33)):=⟨rfl,rfl,rfl,by decide +kernel,rfl,by decide +kernel,by decide +kernel⟩
theorem zll:Bnd "_law_plus" (top 33) ["_law_one", "_law_other"]:=bnd2 fun _ _ _ _ _ _ _ _=>rfl
theorem zun:FnScope ["shape"] ["shape"] (V7 (top 13)):=⟨rfl,rfl,rfl,by decide +kernel,rfl,by decide +kernel,by decide +kernel⟩
theorem zxa:Bnd "steps" (top 13) ["shape"]:=bnd1 fun _ _ _ _ _ _ _=>rfl
theorem zuq:FnScope ["one", "other"] ["one", "other"] (V7 (top 8)):=⟨rfl,rfl,rfl,by decide +kernel,rfl,by decide +kernel,by decide +kernel⟩
theorem zxd:Bnd "minus" (top 8) ["one", "other"]:=bnd2 fun _ _ _ _ _ _ _ _=>rfl
theorem zod:FnScope ["shape", "total", "start", "end", "part"] ["shape"] (V7 (top 17)):=⟨rfl,rfl,rfl,by decide +kernel,rfl,by decide +kernel,by decide +kernel⟩
theorem zos:Bnd "doubled" (top 17) ["shape"]:=bnd1 fun _ _ _ _ _ _ _=>rfl
theorem zev:FnScope ["parts", "common", "part", "tops", "shared", "top"] ["parts"] (V7 (top 16)):=⟨rfl,rfl,rfl,by decide +kernel,rfl,by decide +kernel,by decide +kernel⟩
theorem zfr:Bnd "lowest_whole" (top 16) ["parts"]:=bnd1 fun _ _ _ _ _ _ _=>rfl
theorem zeu:FnScope ["start", "end", "a", "b", "c"] ["start", "end"] (V7 (top 14)):=⟨rfl,rfl,rfl,by decide +kernel,rfl,by decide +kernel,by decide +kernel⟩
theorem zfq:Bnd "side_between" (top 14) ["start", "end"]:=bnd2 fun _ _ _ _ _ _ _ _=>rfl
theorem zkn:FnScope ["shape"] ["shape"] (V7 (top 12)):=⟨rfl,rfl,rfl,by decide +kernel,rfl,by decide +kernel,by decide +kernel⟩
theorem zlk:Bnd "sides_of" (top 12) ["shape"]:=bnd1 fun _ _ _ _ _ _ _=>rfl
theorem zur:FnScope ["side", "other"] ["side", "other"] (V7 (top 15)):=⟨rfl,rfl,rfl,by decide +kernel,rfl,by decide +kernel,by decide +kernel⟩
theorem zxe:Bnd "cross" (top 15) ["side", "other"]:=bnd2 fun _ _ _ _ _ _ _ _=>rfl
theorem zja:FnScope ["sides", "others"] ["sides", "others"] (V7 (top 23)):=⟨rfl,rfl,rfl,by decide +kernel,rfl,by decide +kernel,by decide +kernel⟩
theorem zkc:Bnd "next_bend" (top 23) ["sides", "others"]:=bnd2 fun _ _ _ _ _ _ _ _=>rfl
theorem zpz:FnScope ["one", "other", "sides", "others", "corners", "i", "j", "bend"] ["one", "other"] (V7 (top 22)):=⟨rfl,rfl,rfl,by decide +kernel,rfl,by decide +kernel,by decide +kernel⟩
theorem zsw:Bnd "summed" (top 22) ["one", "other"]:=bnd2 fun _ _ _ _ _ _ _ _=>rfl
theorem zgd:FnScope ["_law_one", "_law_other", "_law_both"] ["_law_one", "_law_other"] (V7 (top 36)):=⟨rfl,rfl,rfl,by decide +kernel,rfl,by decide +kernel,by decide +kernel⟩
theorem zgk:Bnd "_law_surplus" (top 36) ["_law_one", "_law_other"]:=bnd2 fun _ _ _ _ _ _ _ _=>rfl
theorem zdn:FnScope ["_law_one", "_law_other"] ["_law_one", "_law_other"] (V7 (top 34)):=⟨rfl,rfl,rfl,by decide +kernel,rfl,by decide +kernel,by decide +kernel⟩
theorem zdr:Bnd "_law_times" (top 34) ["_law_one", "_law_other"]:=bnd2 fun _ _ _ _ _ _ _ _=>rfl
theorem zkp:FnScope ["_law_one", "_law_other"] ["_law_one", "_law_other"] (V7 (top 35)):=⟨rfl,rfl,rfl,by decide +kernel,rfl,by decide +kernel,by decide +kernel⟩
theorem zlm:Bnd "_law_less" (top 35) ["_law_one", "_law_other"]:=bnd2 fun _ _ _ _ _ _ _ _=>rfl
theorem yak:FnScope ["one", "other"] ["one", "other"] (V7 (top 10)):=⟨rfl,rfl,rfl,by decide +kernel,rfl,by decide +kernel,by decide +kernel⟩
theorem ydu:Bnd "over" (top 10) ["one", "other"]:=bnd2 fun _ _ _ _ _ _ _ _=>rfl
theorem zus:FnScope ["one", "other", "factor", "grown", "push"] ["one", "other"] (V7 (top 25)):=⟨rfl,rfl,rfl,by decide +kernel,rfl,by decide +kernel,by decide +kernel⟩
theorem zxf:Bnd "alike" (top 25) ["one", "other"]:=bnd2 fun _ _ _ _ _ _ _ _=>rfl
theorem zoc:FnScope ["_law_script", "_law_head", "_law_one", "_law_other", "_law_factor", "_law_surplus_here", "_law_square", "_law_product"] ["_law_script"] (V7 (top 37)):=⟨rfl,rfl,rfl,by decide +kernel,rfl,by decide +kernel,by decide +kernel⟩
theorem zor:Bnd "law" (top 37) ["_law_script"]:=bnd1 fun _ _ _ _ _ _ _=>rfl
theorem zgb:trSs 40 ⟨["_law_script", "_law_many", "_law_k", "_law_found", "_law_cell", "_law_at"],V7 (top 27),[],[],false⟩ (Gb (top 27))=some Br:=by kernel_rfl
theorem zem:trSs 40 ⟨["_law_head", "_law_lows", "_law_k", "_law_highs", "_law_top"],V7 (top 30),[],[],false⟩ (Gb (top 30))=some Bh:=by kernel_rfl
theorem zek:trSs 40 ⟨["_law_head", "_law_u", "_law_v", "_law_both", "_law_way", "_law_far", "_law_back"],V7 (top 31),[("_law_bows", 105,1)],[],false⟩ (Gb (top 31))=some Bg:=by kernel_rfl
theorem zgc:trSs 40 ⟨["_law_one", "_law_other"],V7 (top 28),[],[],false⟩ (Gb (top 28))=some B0:=by kernel_rfl
theorem zel:trSs 40 ⟨["_law_top", "_law_bottom", "_law_most"],V7 (top 29),[("_law_divisor", 12,2)],[],false⟩ (Gb (top 29))=some Bv:=by kernel_rfl
theorem zdm:trSs 40 ⟨["_law_head", "_law_ring_here", "_law_by", "_law_off", "_law_share", "_law_at", "_law_found", "_law_x", "_law_y", "_law_right"],V7 (top 32),[("_law_ring", 46,1),("_law_fraction", 103,2)],[],false⟩ (Gb (top 32))=some Bb:=by kernel_rfl
theorem zny:trSs 40 ⟨["one", "other", "great", "small", "rest"],V7 (top 5),[],[],false⟩ (Gb (top 5))=some zcr:=by kernel_rfl
theorem zzl:trSs 40 ⟨["one", "other", "shared", "top", "rest"],V7 (top 7),[("divisor", 0,2)],[],false⟩ (Gb (top 7))=some zno:=by kernel_rfl
theorem ztz:trSs 40 ⟨["one", "other"],V7 (top 20),[("plus", 9,2)],[],false⟩ (Gb (top 20))=some zfx:=by kernel_rfl
theorem zpj:trSs 40 ⟨["shape", "push"],V7 (top 19),[("added", 67,2)],[],false⟩ (Gb (top 19))=some zbn:=by kernel_rfl
theorem ztv:trSs 40 ⟨["top", "bottom", "shared"],V7 (top 6),[("divisor", 0,2)],[],false⟩ (Gb (top 6))=some zik:=by kernel_rfl
theorem zts:trSs 40 ⟨["one", "other"],V7 (top 9),[("ratio", 1,2)],[],false⟩ (Gb (top 9))=some zij:=by kernel_rfl
theorem ztu:trSs 40 ⟨["shape", "factor"],V7 (top 21),[("times", 11,2)],[],false⟩ (Gb (top 21))=some zdc:=by kernel_rfl
theorem zkj:trSs 40 ⟨["_law_one", "_law_other"],V7 (top 33),[("_law_fraction", 103,2)],[],false⟩ (Gb (top 33))=some zbo:=by kernel_rfl
theorem ztt:trSs 40 ⟨["shape"],V7 (top 13),[],[],false⟩ (Gb (top 13))=some zfv:=by kernel_rfl
theorem ztw:trSs 40 ⟨["one", "other"],V7 (top 8),[("plus", 9,2)],[],false⟩ (Gb (top 8))=some zil:=by kernel_rfl
theorem znx:trSs 40 ⟨["shape", "total", "start", "end", "part"],V7 (top 17),[("steps", 41,1),("minus", 10,2),("times", 11,2),("plus", 9,2)],[],false⟩ (Gb (top 17))=some zbe:=by kernel_rfl
theorem zej:trSs 40 ⟨["parts", "common", "part", "tops", "shared", "top"],V7 (top 16),[("divisor", 0,2)],[],false⟩ (Gb (top 16))=some G6:=by kernel_rfl
theorem zei:trSs 40 ⟨["start", "end", "a", "b", "c"],V7 (top 14),[("minus", 10,2),("plus", 9,2),("times", 11,2),("lowest_whole", 43,1)],[],false⟩ (Gb (top 14))=some Bf:=by kernel_rfl
theorem zki:trSs 40 ⟨["shape"],V7 (top 12),[("steps", 41,1),("side_between", 42,2)],[],false⟩ (Gb (top 12))=some B2:=by kernel_rfl
theorem ztx:trSs 40 ⟨["side", "other"],V7 (top 15),[],[],false⟩ (Gb (top 15))=some zfw:=by kernel_rfl
theorem ziq:trSs 40 ⟨["sides", "others"],V7 (top 23),[("cross", 81,2)],[],false⟩ (Gb (top 23))=some Gv:=by kernel_rfl
theorem zpi:trSs 40 ⟨["one", "other", "sides", "others", "corners", "i", "j", "bend"],V7 (top 22),[("sides_of", 40,1),("added", 67,2),("next_bend", 83,2)],[],false⟩ (Gb (top 22))=some zcq:=by kernel_rfl
theorem zga:trSs 40 ⟨["_law_one", "_law_other", "_law_both"],V7 (top 36),[("_law_plus", 108,2),("doubled", 58,1),("summed", 82,2)],[],false⟩ (Gb (top 36))=some Bc:=by kernel_rfl
theorem zdl:trSs 40 ⟨["_law_one", "_law_other"],V7 (top 34),[("_law_fraction", 103,2)],[],false⟩ (Gb (top 34))=some Bq:=by kernel_rfl
theorem zkk:trSs 40 ⟨["_law_one", "_law_other"],V7 (top 35),[],[],false⟩ (Gb (top 35))=some zbp:=by kernel_rfl
theorem zzm:trSs 40 ⟨["one", "other"],V7 (top 10),[("ratio", 1,2)],[],false⟩ (Gb (top 10))=some znp:=by kernel_rfl
theorem zty:trSs 40 ⟨["one", "other", "factor", "grown", "push"],V7 (top 25),[("over", 20,2),("minus", 10,2),("sized", 68,2),("pushed", 66,2)],[],false⟩ (Gb (top 25))=some zdd:=by kernel_rfl
theorem znw:trSs 40 ⟨["_law_script", "_law_head", "_law_one", "_law_other", "_law_factor", "_law_surplus_here", "_law_square", "_law_product"],V7 (top 37),[("_law_numbers", 102,2),("_law_shape", 47,1),("_law_fraction", 103,2),("pushed", 66,2),("sized", 68,2),("_law_surplus", 137,2),("_law_times", 74,2),("doubled", 58,1),("_law_less", 110,2),("alike", 132,2)],[],false⟩ (Gb (top 37))=some G4:=by kernel_rfl
section
variable {P:Program} {w:World} {K:PySem.W.Frag} {h:Heap} {mg:Str → Option Value} {fa:Addr}
theorem all_mk (X:K.In h) (G:h.Ns mainGlobals mg) (hfa:mg "law" = some (.ref fa)) (A_law_numbers:At K "_law_numbers" (top 27)) (A_law_bows_k32:At K "_law_bows" (top 30)) (A_law_ring_k31:At K "_law_ring" (top 31)) (A_law_divisor:At K "_law_divisor" (top 28)) (A_law_fraction:At K "_law_fraction" (top 29)) (A_law_shape_k31:At K "_law_shape" (top 32)) (A_divisor:At K "divisor" (top 5)) (A_plus:At K "plus" (top 7)) (A_added:At K "added" (top 20)) (A_pushed:At K "pushed" (top 19)) (A_ratio:At K "ratio" (top 6)) (A_times:At K "times" (top 9)) (A_sized:At K "sized" (top 21)) (A_law_plus:At K "_law_plus" (top 33)) (A_steps:At K "steps" (top 13)) (A_minus:At K "minus" (top 8)) (A_doubled:At K "doubled" (top 17)) (A_lowest_whole:At K "lowest_whole" (top 16)) (A_side_between:At K "side_between" (top 14)) (A_sides_of:At K "sides_of" (top 12)) (A_cross:At K "cross" (top 15)) (A_next_bend:At K "next_bend" (top 23)) (A_summed:At K "summed" (top 22)) (A_law_surplus:At K "_law_surplus" (top 36)) (A_law_times_k31:At K "_law_times" (top 34)) (A_law_less:At K "_law_less" (top 35)) (A_over:At K "over" (top 10)) (A_alike:At K "alike" (top 25)) (A_law_k52:At K "law" (top 37))
  (z_len:PySem.W.nsIn K mainGlobals "len" = some none) (z_abs:PySem.W.nsIn K mainGlobals "abs" = some none) (z_isinstance:PySem.W.nsIn K mainGlobals "isinstance" = some none) (z_int:PySem.W.nsIn K mainGlobals "int" = some none) (z_bool:PySem.W.nsIn K mainGlobals "bool" = some none) (z_tuple:PySem.W.nsIn K mainGlobals "tuple" = some none) (z_list:PySem.W.nsIn K mainGlobals "list" = some none) (z_range:PySem.W.nsIn K mainGlobals "range" = some none) (z_enumerate:PySem.W.nsIn K mainGlobals "enumerate" = some none) (z_min:PySem.W.nsIn K mainGlobals "min" = some none) (z_max:PySem.W.nsIn K mainGlobals "max" = some none) (z_sorted:PySem.W.nsIn K mainGlobals "sorted" = some none) (z_set:PySem.W.nsIn K mainGlobals "set" = some none) (z_reversed:PySem.W.nsIn K mainGlobals "reversed" = some none) (z_zip:PySem.W.nsIn K mainGlobals "zip" = some none) (z_sum:PySem.W.nsIn K mainGlobals "sum" = some none) :
  ∃ fd:FuncData,(∀ (s:Shared) (v:Value),BindsTo s fd ⟨[v],[]⟩ [("_law_script", v)]) ∧ ∀ base:Heap,K.In base → base.Ns mainGlobals mg → FnOk P w K mg base CX0 29 fa fd ["_law_script"] (spD K 1 (run Γ G4 8)):=by
 have hb:∀ x∈zab,mg x=none:=zwq X G (by
  intro x hx;simp only [zab,Zf,Yj,or_false] at hx;rcases hx with rfl | rfl | rfl | rfl | rfl | rfl | rfl | rfl | rfl | rfl | rfl | rfl | rfl | rfl | rfl | rfl <;> assumption)
 refine law_at A_law_k52 X G hfa zoc zor znw (fun base hk hn=>?_);have G_law_numbers:GFn P w K mg base 1 "_law_numbers" 2 (Γ 102):=Gy (k:=0) A_law_numbers X G zge zgl zgb rfl ⟨Calls.nil,CallsR.nil,(fun h=>nomatch h),hb⟩ ok_law_numbers;have G_law_bows_k32:GFn P w K mg base 2 "_law_bows" 1 (Γ 105):=Gy (k:=1) A_law_bows_k32 X G zey zfu zem rfl ⟨Calls.nil,CallsR.nil,(fun h=>nomatch h),hb⟩ ok_law_bows_k32;have G_law_ring_k31:GFn P w K mg base 3 "_law_ring" 1 (Γ 46):=Gy (k:=2) A_law_ring_k31 X G zew zfs zek rfl ⟨(Calls.cons G_law_bows_k32 (by decide) Calls.nil),CallsR.nil,(fun h=>nomatch h),hb⟩ ok_law_ring_k31;have G_law_divisor:GFn P w K mg base 4 "_law_divisor" 2 (Γ 12):=Gy (k:=3) A_law_divisor X G zgf zgm zgc rfl ⟨Calls.nil,CallsR.nil,(fun h=>nomatch h),hb⟩ ok_law_divisor;have G_law_fraction:GFn P w K mg base 5 "_law_fraction" 2 (Γ 103):=Gy (k:=4) A_law_fraction X G zex zft zel rfl ⟨(Calls.cons G_law_divisor (by decide) Calls.nil),CallsR.nil,(fun h=>nomatch h),hb⟩ ok_law_fraction;have G_law_shape_k31:GFn P w K mg base 6 "_law_shape" 1 (Γ 47):=Gy (k:=5) A_law_shape_k31 X G zdo zds zdm rfl ⟨(Calls.cons G_law_ring_k31 (by decide) (Calls.cons G_law_fraction (by decide) Calls.nil)),CallsR.nil,(fun h=>nomatch h),hb⟩ ok_law_shape_k31;have G_divisor:GFn P w K mg base 7 "divisor" 2 (Γ 0):=Gy (k:=6) A_divisor X G zoe zot zny rfl ⟨Calls.nil,CallsR.nil,(fun h=>nomatch h),hb⟩ ok_divisor;have G_plus:GFn P w K mg base 8 "plus" 2 (Γ 9):=Gy (k:=7) A_plus X G yaj ydt zzl rfl ⟨(Calls.cons G_divisor (by decide) Calls.nil),CallsR.nil,(fun h=>nomatch h),hb⟩ ok_plus;have G_added:GFn P w K mg base 9 "added" 2 (Γ 67):=Gy (k:=8) A_added X G zut zxg ztz rfl ⟨(Calls.cons G_plus (by decide) Calls.nil),CallsR.nil,(fun h=>nomatch h),hb⟩ ok_added;have G_pushed:GFn P w K mg base 10 "pushed" 2 (Γ 66):=Gy (k:=9) A_pushed X G zqa zsx zpj rfl ⟨(Calls.cons G_added (by decide) Calls.nil),CallsR.nil,(fun h=>nomatch h),hb⟩ ok_pushed;have G_ratio:GFn P w K mg base 11 "ratio" 2 (Γ 1):=Gy (k:=10) A_ratio X G zup zxc ztv rfl ⟨(Calls.cons G_divisor (by decide) Calls.nil),CallsR.nil,(fun h=>nomatch h),hb⟩ ok_ratio;have G_times:GFn P w K mg base 12 "times" 2 (Γ 11):=Gy (k:=11) A_times X G zum zwz zts rfl ⟨(Calls.cons G_ratio (by decide) Calls.nil),CallsR.nil,(fun h=>nomatch h),hb⟩ ok_times;have G_sized:GFn P w K mg base 13 "sized" 2 (Γ 68):=Gy (k:=12) A_sized X G zuo zxb ztu rfl ⟨(Calls.cons G_times (by decide) Calls.nil),CallsR.nil,(fun h=>nomatch h),hb⟩ ok_sized;have G_law_plus:GFn P w K mg base 14 "_law_plus" 2 (Γ 108):=Gy (k:=13) A_law_plus X G zko zll zkj rfl ⟨(Calls.cons G_law_fraction (by decide) Calls.nil),CallsR.nil,(fun h=>nomatch h),hb⟩ ok_law_plus;have G_steps:GFn P w K mg base 15 "steps" 1 (Γ 41):=Gy (k:=14) A_steps X G zun zxa ztt rfl ⟨Calls.nil,CallsR.nil,(fun h=>nomatch h),hb⟩ ok_steps;have G_minus:GFn P w K mg base 16 "minus" 2 (Γ 10):=Gy (k:=15) A_minus X G zuq zxd ztw rfl ⟨(Calls.cons G_plus (by decide) Calls.nil),CallsR.nil,(fun h=>nomatch h),hb⟩ ok_minus;have G_doubled:GFn P w K mg base 17 "doubled" 1 (Γ 58):=Gy (k:=16) A_doubled X G zod zos znx rfl ⟨(Calls.cons G_steps (by decide) (Calls.cons G_minus (by decide) (Calls.cons G_times (by decide) (Calls.cons G_plus (by decide) Calls.nil)))),CallsR.nil,(fun h=>nomatch h),hb⟩ ok_doubled;have G_lowest_whole:GFn P w K mg base 18 "lowest_whole" 1 (Γ 43):=Gy (k:=17) A_lowest_whole X G zev zfr zej rfl ⟨(Calls.cons G_divisor (by decide) Calls.nil),CallsR.nil,(fun h=>nomatch h),hb⟩ ok_lowest_whole;have G_side_between:GFn P w K mg base 19 "side_between" 2 (Γ 42):=Gy (k:=18) A_side_between X G zeu zfq zei rfl ⟨(Calls.cons G_minus (by decide) (Calls.cons G_plus (by decide) (Calls.cons G_times (by decide) (Calls.cons G_lowest_whole (by decide) Calls.nil)))),CallsR.nil,(fun h=>nomatch h),hb⟩ ok_side_between;have G_sides_of:GFn P w K mg base 20 "sides_of" 1 (Γ 40):=Gy (k:=19) A_sides_of X G zkn zlk zki rfl ⟨(Calls.cons G_steps (by decide) (Calls.cons G_side_between (by decide) Calls.nil)),CallsR.nil,(fun h=>nomatch h),hb⟩ ok_sides_of;have G_cross:GFn P w K mg base 21 "cross" 2 (Γ 81):=Gy (k:=20) A_cross X G zur zxe ztx rfl ⟨Calls.nil,CallsR.nil,(fun h=>nomatch h),hb⟩ ok_cross;have G_next_bend:GFn P w K mg base 22 "next_bend" 2 (Γ 83):=Gy (k:=21) A_next_bend X G zja zkc ziq rfl ⟨(Calls.cons G_cross (by decide) Calls.nil),CallsR.nil,(fun h=>nomatch h),hb⟩ ok_next_bend;have G_summed:GFn P w K mg base 23 "summed" 2 (Γ 82):=Gy (k:=22) A_summed X G zpz zsw zpi rfl ⟨(Calls.cons G_sides_of (by decide) (Calls.cons G_added (by decide) (Calls.cons G_next_bend (by decide) Calls.nil))),CallsR.nil,(fun h=>nomatch h),hb⟩ ok_summed;have G_law_surplus:GFn P w K mg base 24 "_law_surplus" 2 (Γ 137):=Gy (k:=23) A_law_surplus X G zgd zgk zga rfl ⟨(Calls.cons G_law_plus (by decide) (Calls.cons G_doubled (by decide) (Calls.cons G_summed (by decide) Calls.nil))),CallsR.nil,(fun h=>nomatch h),hb⟩ ok_law_surplus;have G_law_times_k31:GFn P w K mg base 25 "_law_times" 2 (Γ 74):=Gy (k:=24) A_law_times_k31 X G zdn zdr zdl rfl ⟨(Calls.cons G_law_fraction (by decide) Calls.nil),CallsR.nil,(fun h=>nomatch h),hb⟩ ok_law_times_k31;have G_law_less:GFn P w K mg base 26 "_law_less" 2 (Γ 110):=Gy (k:=25) A_law_less X G zkp zlm zkk rfl ⟨Calls.nil,CallsR.nil,(fun h=>nomatch h),hb⟩ ok_law_less;have G_over:GFn P w K mg base 27 "over" 2 (Γ 20):=Gy (k:=26) A_over X G yak ydu zzm rfl ⟨(Calls.cons G_ratio (by decide) Calls.nil),CallsR.nil,(fun h=>nomatch h),hb⟩ ok_over;have G_alike:GFn P w K mg base 28 "alike" 2 (Γ 132):=Gy (k:=27) A_alike X G zus zxf zty rfl ⟨(Calls.cons G_over (by decide) (Calls.cons G_minus (by decide) (Calls.cons G_sized (by decide) (Calls.cons G_pushed (by decide) Calls.nil)))),CallsR.nil,(fun h=>nomatch h),hb⟩ ok_alike;exact⟨(Calls.cons G_law_numbers (by decide) (Calls.cons G_law_shape_k31 (by decide) (Calls.cons G_law_fraction (by decide) (Calls.cons G_pushed (by decide) (Calls.cons G_sized (by decide) (Calls.cons G_law_surplus (by decide) (Calls.cons G_law_times_k31 (by decide) (Calls.cons G_doubled (by decide) (Calls.cons G_law_less (by decide) (Calls.cons G_alike (by decide) Calls.nil)))))))))),CallsR.nil,(fun h=>nomatch h),hb⟩
end
theorem walk {l:PySem.W.OpenLaw} {q:Program} {loose:List Str} {XP:(Str → Option Value) → Heap → Prop} {YP:World → Heap → Prop} {d:DefRec} {K:Params → PySem.W.Frag} (hn:l.most=some 63) (hdf:d.params.defaults=[])
  (hY:∀ (w:World) (h:Heap),YP w h → (K w.params).In h)
  (F:∀ (w:World) (mg:Str → Option Value) (fa:Addr) (h:Heap),(K w.params).In h → h.Ns mainGlobals mg → mg d.name=some (.ref fa) →
   ∃ fd:FuncData,(∀ (s:Shared) (u:Value),BindsTo s fd ⟨[u],[]⟩ [("_law_script", u)]) ∧ ∀ base:Heap,(K w.params).In base → base.Ns mainGlobals mg → FnOk l.prog w (K w.params) mg base CX0 29 fa fd ["_law_script"] (spD (K w.params) 1 (run Γ G4 8))) :
  PySem.W.WalkO q loose XP YP l.row.toRowW d [] (fun f vs=>PySem.call f vs):=
 L2.walk_of (n:=63) (k:=29) (x := "_law_script") (CX:=fun _=>CX0) (sp:=fun w=>spD (K w.params) 1 (run Γ G4 8)) hn (by decide) hdf ⟨rfl,by decide,by decide⟩ hY F (fun _ H a ns hl _ hS=>zvr zvq H a ns hl hS) fun _ _ _ _ _ z=>z
end LW
open PySem PySem.W PyProof.Rows
/-! size: the head lays twins of its constants; where these names stand it goes on without -/
namespace PySem.W.Fast
theorem tw10186795417595625139:True:=⟨⟩
theorem tw11858414973370382386:True:=⟨⟩
theorem tw14942839791324717227:True:=⟨⟩
theorem tw4334218053495692494:True:=⟨⟩
theorem tw9994351835905550342:True:=⟨⟩
theorem tw4317368148564052967:True:=⟨⟩
theorem tw10932975441873027076:True:=⟨⟩
theorem tw733204271856850597:True:=⟨⟩
theorem tw12518857926472291001:True:=⟨⟩
theorem tw14349463376538961941:True:=⟨⟩
theorem tw2689453055951918175:True:=⟨⟩
theorem tw17706113298030099868:True:=⟨⟩
theorem tw3207688394470828040:True:=⟨⟩
theorem tw6682821739053021941:True:=⟨⟩
theorem tw9869584421005667573:True:=⟨⟩
theorem tw12596697972739858366:True:=⟨⟩
theorem tw6011695834288831031:True:=⟨⟩
theorem tw5046348714436365850:True:=⟨⟩
theorem tw12176470694763327783:True:=⟨⟩
theorem tw12661808931671934715:True:=⟨⟩
theorem tw3490021714735752236:True:=⟨⟩
theorem tw1726051404267943999:True:=⟨⟩
theorem tw5516014313981364779:True:=⟨⟩
theorem tw157996430448958094:True:=⟨⟩
theorem tw17345737174951893249:True:=⟨⟩
theorem tw5674259759500040386:True:=⟨⟩
theorem tw9435887679452730620:True:=⟨⟩
theorem tw18378915648934544270:True:=⟨⟩
theorem tw6744483454985506934:True:=⟨⟩
theorem tw16564562259328887856:True:=⟨⟩
end PySem.W.Fast
set_option maxRecDepth 100000 in
set_option maxHeartbeats 0 in
theorem PySem.Challenge.cw_snugfit_k52_whole_areas_of_sums_holds : PySem.Challenge.rw_snugfit_k52_whole_areas_of_sums.Holds := by
 w_on;o_law;k_head;(case hw=>w_witness2)
 k_fill
 refine LW.walk (l:=PySem.Challenge.rw_snugfit_k52_whole_areas_of_sums) rfl rfl (fun w h Y=>PySem.W.kIn_of Y) ?F
 case F=>
  intro w mg fa h KX G hmg;refine' LW.all_mk KX G hmg ?_ ?_ ?_ ?_ ?_ ?_ ?_ ?_ ?_ ?_ ?_ ?_ ?_ ?_ ?_ ?_ ?_ ?_ ?_ ?_ ?_ ?_ ?_ ?_ ?_ ?_ ?_ ?_ ?_ ?_ ?_ ?_ ?_ ?_ ?_ ?_ ?_ ?_ ?_ ?_ ?_ ?_ ?_ ?_ ?_
  all_goals first|(refine' DL.at_mk ?a ?l ?c ?k;(case a=>k_is);(case l=>k_is);(case c=>k_is);(case k=>k_is))|k_is
#print axioms PySem.Challenge.cw_snugfit_k52_whole_areas_of_sums_holds

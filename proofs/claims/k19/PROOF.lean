import PyProof.Rows.All
import Wide.All
import OpenK.AllK
import Wide.FinOn
import Lean
import PyProof.EqAt
import PyProof.EqKinds
import PyProof.TupleCall
import PyProof.P3In
import PyProof.Rows.EqDataRows
import KE.KTryMore
import PyProof.SetScanFacts
import PyProof.Rows.SetFrom
import PyProof.SetRoads
import KE.KSortAsk
import KE.KSortTup
import KE.KRevIter
import PyProof.ZipIter
import PySem.Challenge.RW_snugfit_k19_whole_sums_of_sums
set_option Elab.async false
set_option linter.all false
set_option maxRecDepth 100000
set_option maxHeartbeats 8000000
set_option compiler.extract_closed false
noncomputable section
set_option genSizeOf false
set_option genInjectivity false
local macro_rules | `(tactic| omega) => `(tactic| first | (with_reducible assumption) | (with_reducible refine Nat.le_trans (by assumption) ?_; decide) | (with_reducible refine Nat.lt_of_lt_of_le ?_ (by assumption); decide) | lia)
theorem xg  {A0:Prop} {A1:Prop} {G:Prop} (h:(A0)/\A1) (k:A0->A1->G):G:=k h.1 h.2
theorem xi  {A0:Prop} {A1:Prop} {A2:Prop} {G:Prop} (h:(A0)/\(A1)/\A2) (k:A0->A1->A2->G):G:=k h.1 h.2.1 h.2.2
theorem xk  {A0:Prop} {A1:Prop} {A2:Prop} {A3:Prop} {G:Prop} (h:(A0)/\(A1)/\(A2)/\A3) (k:A0->A1->A2->A3->G):G:=k h.1 h.2.1 h.2.2.1 h.2.2.2
theorem xv  {A0:Prop} {A1:Prop} {A2:Prop} {A3:Prop} {A4:Prop} {G:Prop} (h:(A0)/\(A1)/\(A2)/\(A3)/\A4) (k:A0->A1->A2->A3->A4->G):G:=k h.1 h.2.1 h.2.2.1 h.2.2.2.1 h.2.2.2.2
theorem xu  {A0:Prop} {A1:Prop} {A2:Prop} {A3:Prop} {A4:Prop} {A5:Prop} {G:Prop} (h:(A0)/\(A1)/\(A2)/\(A3)/\(A4)/\A5) (k:A0->A1->A2->A3->A4->A5->G):G:=k h.1 h.2.1 h.2.2.1 h.2.2.2.1 h.2.2.2.2.1 h.2.2.2.2.2
theorem vA  {A0:Prop} {A1:Prop} {A2:Prop} {A3:Prop} {A4:Prop} {A5:Prop} {A6:Prop} {A7:Prop} {G:Prop} (h:(A0)/\(A1)/\(A2)/\(A3)/\(A4)/\(A5)/\(A6)/\A7) (k:A0->A1->A2->A3->A4->A5->A6->A7->G):G:=k h.1 h.2.1 h.2.2.1 h.2.2.2.1 h.2.2.2.2.1 h.2.2.2.2.2.1 h.2.2.2.2.2.2.1 h.2.2.2.2.2.2.2
theorem xb.{u0} {a0:Sort u0} {A1:a0->Prop} {G:Prop} (h:∃ v0,A1 v0) (k:∀ v0,A1 v0->G):G:=Exists.elim h fun v0 h0=>k v0 h0
theorem xa.{u0} {a0:Sort u0} {A1:a0->Prop} {A2:a0->Prop} {G:Prop} (h:∃ v0,(A1 v0)/\A2 v0) (k:∀ v0,A1 v0->A2 v0->G):G:=Exists.elim h fun v0 h0=>k v0 h0.1 h0.2
theorem xh.{u0} {a0:Sort u0} {A1:a0->Prop} {A2:a0->Prop} {A3:a0->Prop} {G:Prop} (h:∃ v0,(A1 v0)/\(A2 v0)/\A3 v0) (k:∀ v0,A1 v0->A2 v0->A3 v0->G):G:=Exists.elim h fun v0 h0=>k v0 h0.1 h0.2.1 h0.2.2
theorem vi.{u0} {a0:Sort u0} {A1:a0->Prop} {A2:a0->Prop} {A3:a0->Prop} {A4:a0->Prop} {G:Prop} (h:∃ v0,(A1 v0)/\(A2 v0)/\(A3 v0)/\A4 v0) (k:∀ v0,A1 v0->A2 v0->A3 v0->A4 v0->G):G:=Exists.elim h fun v0 h0=>k v0 h0.1 h0.2.1 h0.2.2.1 h0.2.2.2
theorem xw.{u0} {a0:Sort u0} {A1:a0->Prop} {A2:a0->Prop} {A3:a0->Prop} {A4:a0->Prop} {A5:a0->Prop} {G:Prop} (h:∃ v0,(A1 v0)/\(A2 v0)/\(A3 v0)/\(A4 v0)/\A5 v0) (k:∀ v0,A1 v0->A2 v0->A3 v0->A4 v0->A5 v0->G):G:=Exists.elim h fun v0 h0=>k v0 h0.1 h0.2.1 h0.2.2.1 h0.2.2.2.1 h0.2.2.2.2
theorem xl.{u0,u1} {a0:Sort u0} {a1:Sort u1} {A2:a0->a1->Prop} {G:Prop} (h:∃ v0,∃ v1,A2 v0 v1) (k:∀ v0,∀ v1,A2 v0 v1->G):G:=Exists.elim h fun v0 h0=>Exists.elim h0 fun v1 h1=>k v0 v1 h1
theorem xj.{u0,u1} {a0:Sort u0} {a1:Sort u1} {A2:a0->a1->Prop} {A3:a0->a1->Prop} {G:Prop} (h:∃ v0,∃ v1,(A2 v0 v1)/\A3 v0 v1) (k:∀ v0,∀ v1,A2 v0 v1->A3 v0 v1->G):G:=Exists.elim h fun v0 h0=>Exists.elim h0 fun v1 h1=>k v0 v1 h1.1 h1.2
theorem xc.{u0,u1} {a0:Sort u0} {a1:Sort u1} {A2:a0->a1->Prop} {A3:a0->a1->Prop} {A4:a0->a1->Prop} {G:Prop} (h:∃ v0,∃ v1,(A2 v0 v1)/\(A3 v0 v1)/\A4 v0 v1) (k:∀ v0,∀ v1,A2 v0 v1->A3 v0 v1->A4 v0 v1->G):G:=Exists.elim h fun v0 h0=>Exists.elim h0 fun v1 h1=>k v0 v1 h1.1 h1.2.1 h1.2.2
theorem xo.{u0,u1} {a0:Sort u0} {a1:Sort u1} {A2:a0->a1->Prop} {A3:a0->a1->Prop} {A4:a0->a1->Prop} {A5:a0->a1->Prop} {G:Prop} (h:∃ v0,∃ v1,(A2 v0 v1)/\(A3 v0 v1)/\(A4 v0 v1)/\A5 v0 v1) (k:∀ v0,∀ v1,A2 v0 v1->A3 v0 v1->A4 v0 v1->A5 v0 v1->G):G:=Exists.elim h fun v0 h0=>Exists.elim h0 fun v1 h1=>k v0 v1 h1.1 h1.2.1 h1.2.2.1 h1.2.2.2
theorem xm.{u0,u1} {a0:Sort u0} {a1:Sort u1} {A2:a0->a1->Prop} {A3:a0->a1->Prop} {A4:a0->a1->Prop} {A5:a0->a1->Prop} {A6:a0->a1->Prop} {G:Prop} (h:∃ v0,∃ v1,(A2 v0 v1)/\(A3 v0 v1)/\(A4 v0 v1)/\(A5 v0 v1)/\A6 v0 v1) (k:∀ v0,∀ v1,A2 v0 v1->A3 v0 v1->A4 v0 v1->A5 v0 v1->A6 v0 v1->G):G:=Exists.elim h fun v0 h0=>Exists.elim h0 fun v1 h1=>k v0 v1 h1.1 h1.2.1 h1.2.2.1 h1.2.2.2.1 h1.2.2.2.2
theorem xB.{u0,u1} {a0:Sort u0} {a1:Sort u1} {A2:a0->a1->Prop} {A3:a0->a1->Prop} {A4:a0->a1->Prop} {A5:a0->a1->Prop} {A6:a0->a1->Prop} {A7:a0->a1->Prop} {G:Prop} (h:∃ v0,∃ v1,(A2 v0 v1)/\(A3 v0 v1)/\(A4 v0 v1)/\(A5 v0 v1)/\(A6 v0 v1)/\A7 v0 v1) (k:∀ v0,∀ v1,A2 v0 v1->A3 v0 v1->A4 v0 v1->A5 v0 v1->A6 v0 v1->A7 v0 v1->G):G:=Exists.elim h fun v0 h0=>Exists.elim h0 fun v1 h1=>k v0 v1 h1.1 h1.2.1 h1.2.2.1 h1.2.2.2.1 h1.2.2.2.2.1 h1.2.2.2.2.2
theorem xq.{u0,u1,u2} {a0:Sort u0} {a1:Sort u1} {a2:Sort u2} {A3:a0->a1->a2->Prop} {G:Prop} (h:∃ v0,∃ v1,∃ v2,A3 v0 v1 v2) (k:∀ v0,∀ v1,∀ v2,A3 v0 v1 v2->G):G:=Exists.elim h fun v0 h0=>Exists.elim h0 fun v1 h1=>Exists.elim h1 fun v2 h2=>k v0 v1 v2 h2
theorem xn.{u0,u1,u2} {a0:Sort u0} {a1:Sort u1} {a2:Sort u2} {A3:a0->a1->a2->Prop} {A4:a0->a1->a2->Prop} {G:Prop} (h:∃ v0,∃ v1,∃ v2,(A3 v0 v1 v2)/\A4 v0 v1 v2) (k:∀ v0,∀ v1,∀ v2,A3 v0 v1 v2->A4 v0 v1 v2->G):G:=Exists.elim h fun v0 h0=>Exists.elim h0 fun v1 h1=>Exists.elim h1 fun v2 h2=>k v0 v1 v2 h2.1 h2.2
theorem xE.{u0,u1,u2} {a0:Sort u0} {a1:Sort u1} {a2:Sort u2} {A3:a0->a1->a2->Prop} {A4:a0->a1->a2->Prop} {A5:a0->a1->a2->Prop} {G:Prop} (h:∃ v0,∃ v1,∃ v2,(A3 v0 v1 v2)/\(A4 v0 v1 v2)/\A5 v0 v1 v2) (k:∀ v0,∀ v1,∀ v2,A3 v0 v1 v2->A4 v0 v1 v2->A5 v0 v1 v2->G):G:=Exists.elim h fun v0 h0=>Exists.elim h0 fun v1 h1=>Exists.elim h1 fun v2 h2=>k v0 v1 v2 h2.1 h2.2.1 h2.2.2
theorem xt.{u0,u1,u2} {a0:Sort u0} {a1:Sort u1} {a2:Sort u2} {A3:a0->a1->a2->Prop} {A4:a0->a1->a2->Prop} {A5:a0->a1->a2->Prop} {A6:a0->a1->a2->Prop} {G:Prop} (h:∃ v0,∃ v1,∃ v2,(A3 v0 v1 v2)/\(A4 v0 v1 v2)/\(A5 v0 v1 v2)/\A6 v0 v1 v2) (k:∀ v0,∀ v1,∀ v2,A3 v0 v1 v2->A4 v0 v1 v2->A5 v0 v1 v2->A6 v0 v1 v2->G):G:=Exists.elim h fun v0 h0=>Exists.elim h0 fun v1 h1=>Exists.elim h1 fun v2 h2=>k v0 v1 v2 h2.1 h2.2.1 h2.2.2.1 h2.2.2.2
theorem xz.{u0,u1,u2} {a0:Sort u0} {a1:Sort u1} {a2:Sort u2} {A3:a0->a1->a2->Prop} {A4:a0->a1->a2->Prop} {A5:a0->a1->a2->Prop} {A6:a0->a1->a2->Prop} {A7:a0->a1->a2->Prop} {G:Prop} (h:∃ v0,∃ v1,∃ v2,(A3 v0 v1 v2)/\(A4 v0 v1 v2)/\(A5 v0 v1 v2)/\(A6 v0 v1 v2)/\A7 v0 v1 v2) (k:∀ v0,∀ v1,∀ v2,A3 v0 v1 v2->A4 v0 v1 v2->A5 v0 v1 v2->A6 v0 v1 v2->A7 v0 v1 v2->G):G:=Exists.elim h fun v0 h0=>Exists.elim h0 fun v1 h1=>Exists.elim h1 fun v2 h2=>k v0 v1 v2 h2.1 h2.2.1 h2.2.2.1 h2.2.2.2.1 h2.2.2.2.2
theorem vj.{u0,u1,u2,u3} {a0:Sort u0} {a1:Sort u1} {a2:Sort u2} {a3:Sort u3} {A4:a0->a1->a2->a3->Prop} {G:Prop} (h:∃ v0,∃ v1,∃ v2,∃ v3,A4 v0 v1 v2 v3) (k:∀ v0,∀ v1,∀ v2,∀ v3,A4 v0 v1 v2 v3->G):G:=Exists.elim h fun v0 h0=>Exists.elim h0 fun v1 h1=>Exists.elim h1 fun v2 h2=>Exists.elim h2 fun v3 h3=>k v0 v1 v2 v3 h3
theorem xG.{u0,u1,u2,u3} {a0:Sort u0} {a1:Sort u1} {a2:Sort u2} {a3:Sort u3} {A4:a0->a1->a2->a3->Prop} {A5:a0->a1->a2->a3->Prop} {G:Prop} (h:∃ v0,∃ v1,∃ v2,∃ v3,(A4 v0 v1 v2 v3)/\A5 v0 v1 v2 v3) (k:∀ v0,∀ v1,∀ v2,∀ v3,A4 v0 v1 v2 v3->A5 v0 v1 v2 v3->G):G:=Exists.elim h fun v0 h0=>Exists.elim h0 fun v1 h1=>Exists.elim h1 fun v2 h2=>Exists.elim h2 fun v3 h3=>k v0 v1 v2 v3 h3.1 h3.2
theorem vo.{u0,u1,u2,u3} {a0:Sort u0} {a1:Sort u1} {a2:Sort u2} {a3:Sort u3} {A4:a0->a1->a2->a3->Prop} {A5:a0->a1->a2->a3->Prop} {A6:a0->a1->a2->a3->Prop} {G:Prop} (h:∃ v0,∃ v1,∃ v2,∃ v3,(A4 v0 v1 v2 v3)/\(A5 v0 v1 v2 v3)/\A6 v0 v1 v2 v3) (k:∀ v0,∀ v1,∀ v2,∀ v3,A4 v0 v1 v2 v3->A5 v0 v1 v2 v3->A6 v0 v1 v2 v3->G):G:=Exists.elim h fun v0 h0=>Exists.elim h0 fun v1 h1=>Exists.elim h1 fun v2 h2=>Exists.elim h2 fun v3 h3=>k v0 v1 v2 v3 h3.1 h3.2.1 h3.2.2
theorem xC.{u0,u1,u2,u3} {a0:Sort u0} {a1:Sort u1} {a2:Sort u2} {a3:Sort u3} {A4:a0->a1->a2->a3->Prop} {A5:a0->a1->a2->a3->Prop} {A6:a0->a1->a2->a3->Prop} {A7:a0->a1->a2->a3->Prop} {A8:a0->a1->a2->a3->Prop} {G:Prop} (h:∃ v0,∃ v1,∃ v2,∃ v3,(A4 v0 v1 v2 v3)/\(A5 v0 v1 v2 v3)/\(A6 v0 v1 v2 v3)/\(A7 v0 v1 v2 v3)/\A8 v0 v1 v2 v3) (k:∀ v0,∀ v1,∀ v2,∀ v3,A4 v0 v1 v2 v3->A5 v0 v1 v2 v3->A6 v0 v1 v2 v3->A7 v0 v1 v2 v3->A8 v0 v1 v2 v3->G):G:=Exists.elim h fun v0 h0=>Exists.elim h0 fun v1 h1=>Exists.elim h1 fun v2 h2=>Exists.elim h2 fun v3 h3=>k v0 v1 v2 v3 h3.1 h3.2.1 h3.2.2.1 h3.2.2.2.1 h3.2.2.2.2
theorem vk.{u0,u1,u2,u3} {a0:Sort u0} {a1:Sort u1} {a2:Sort u2} {a3:Sort u3} {A4:a0->a1->a2->a3->Prop} {A5:a0->a1->a2->a3->Prop} {A6:a0->a1->a2->a3->Prop} {A7:a0->a1->a2->a3->Prop} {A8:a0->a1->a2->a3->Prop} {A9:a0->a1->a2->a3->Prop} {G:Prop} (h:∃ v0,∃ v1,∃ v2,∃ v3,(A4 v0 v1 v2 v3)/\(A5 v0 v1 v2 v3)/\(A6 v0 v1 v2 v3)/\(A7 v0 v1 v2 v3)/\(A8 v0 v1 v2 v3)/\A9 v0 v1 v2 v3) (k:∀ v0,∀ v1,∀ v2,∀ v3,A4 v0 v1 v2 v3->A5 v0 v1 v2 v3->A6 v0 v1 v2 v3->A7 v0 v1 v2 v3->A8 v0 v1 v2 v3->A9 v0 v1 v2 v3->G):G:=Exists.elim h fun v0 h0=>Exists.elim h0 fun v1 h1=>Exists.elim h1 fun v2 h2=>Exists.elim h2 fun v3 h3=>k v0 v1 v2 v3 h3.1 h3.2.1 h3.2.2.1 h3.2.2.2.1 h3.2.2.2.2.1 h3.2.2.2.2.2
theorem vh.{u0,u1,u2,u3} {a0:Sort u0} {a1:Sort u1} {a2:Sort u2} {a3:Sort u3} {A4:a0->a1->a2->a3->Prop} {A5:a0->a1->a2->a3->Prop} {A6:a0->a1->a2->a3->Prop} {A7:a0->a1->a2->a3->Prop} {A8:a0->a1->a2->a3->Prop} {A9:a0->a1->a2->a3->Prop} {A10:a0->a1->a2->a3->Prop} {G:Prop} (h:∃ v0,∃ v1,∃ v2,∃ v3,(A4 v0 v1 v2 v3)/\(A5 v0 v1 v2 v3)/\(A6 v0 v1 v2 v3)/\(A7 v0 v1 v2 v3)/\(A8 v0 v1 v2 v3)/\(A9 v0 v1 v2 v3)/\A10 v0 v1 v2 v3) (k:∀ v0,∀ v1,∀ v2,∀ v3,A4 v0 v1 v2 v3->A5 v0 v1 v2 v3->A6 v0 v1 v2 v3->A7 v0 v1 v2 v3->A8 v0 v1 v2 v3->A9 v0 v1 v2 v3->A10 v0 v1 v2 v3->G):G:=Exists.elim h fun v0 h0=>Exists.elim h0 fun v1 h1=>Exists.elim h1 fun v2 h2=>Exists.elim h2 fun v3 h3=>k v0 v1 v2 v3 h3.1 h3.2.1 h3.2.2.1 h3.2.2.2.1 h3.2.2.2.2.1 h3.2.2.2.2.2.1 h3.2.2.2.2.2.2
theorem vg.{u0,u1,u2,u3} {a0:Sort u0} {a1:Sort u1} {a2:Sort u2} {a3:Sort u3} {A4:a0->a1->a2->a3->Prop} {A5:a0->a1->a2->a3->Prop} {A6:a0->a1->a2->a3->Prop} {A7:a0->a1->a2->a3->Prop} {A8:a0->a1->a2->a3->Prop} {A9:a0->a1->a2->a3->Prop} {A10:a0->a1->a2->a3->Prop} {A11:a0->a1->a2->a3->Prop} {A12:a0->a1->a2->a3->Prop} {A13:a0->a1->a2->a3->Prop} {G:Prop} (h:∃ v0,∃ v1,∃ v2,∃ v3,(A4 v0 v1 v2 v3)/\(A5 v0 v1 v2 v3)/\(A6 v0 v1 v2 v3)/\(A7 v0 v1 v2 v3)/\(A8 v0 v1 v2 v3)/\(A9 v0 v1 v2 v3)/\(A10 v0 v1 v2 v3)/\(A11 v0 v1 v2 v3)/\(A12 v0 v1 v2 v3)/\A13 v0 v1 v2 v3) (k:∀ v0,∀ v1,∀ v2,∀ v3,A4 v0 v1 v2 v3->A5 v0 v1 v2 v3->A6 v0 v1 v2 v3->A7 v0 v1 v2 v3->A8 v0 v1 v2 v3->A9 v0 v1 v2 v3->A10 v0 v1 v2 v3->A11 v0 v1 v2 v3->A12 v0 v1 v2 v3->A13 v0 v1 v2 v3->G):G:=Exists.elim h fun v0 h0=>Exists.elim h0 fun v1 h1=>Exists.elim h1 fun v2 h2=>Exists.elim h2 fun v3 h3=>k v0 v1 v2 v3 h3.1 h3.2.1 h3.2.2.1 h3.2.2.2.1 h3.2.2.2.2.1 h3.2.2.2.2.2.1 h3.2.2.2.2.2.2.1 h3.2.2.2.2.2.2.2.1 h3.2.2.2.2.2.2.2.2.1 h3.2.2.2.2.2.2.2.2.2
theorem vt.{u0,u1,u2,u3,u4} {a0:Sort u0} {a1:Sort u1} {a2:Sort u2} {a3:Sort u3} {a4:Sort u4} {A5:a0->a1->a2->a3->a4->Prop} {G:Prop} (h:∃ v0,∃ v1,∃ v2,∃ v3,∃ v4,A5 v0 v1 v2 v3 v4) (k:∀ v0,∀ v1,∀ v2,∀ v3,∀ v4,A5 v0 v1 v2 v3 v4->G):G:=Exists.elim h fun v0 h0=>Exists.elim h0 fun v1 h1=>Exists.elim h1 fun v2 h2=>Exists.elim h2 fun v3 h3=>Exists.elim h3 fun v4 h4=>k v0 v1 v2 v3 v4 h4
theorem vf.{u0,u1,u2,u3,u4} {a0:Sort u0} {a1:Sort u1} {a2:Sort u2} {a3:Sort u3} {a4:Sort u4} {A5:a0->a1->a2->a3->a4->Prop} {A6:a0->a1->a2->a3->a4->Prop} {G:Prop} (h:∃ v0,∃ v1,∃ v2,∃ v3,∃ v4,(A5 v0 v1 v2 v3 v4)/\A6 v0 v1 v2 v3 v4) (k:∀ v0,∀ v1,∀ v2,∀ v3,∀ v4,A5 v0 v1 v2 v3 v4->A6 v0 v1 v2 v3 v4->G):G:=Exists.elim h fun v0 h0=>Exists.elim h0 fun v1 h1=>Exists.elim h1 fun v2 h2=>Exists.elim h2 fun v3 h3=>Exists.elim h3 fun v4 h4=>k v0 v1 v2 v3 v4 h4.1 h4.2
theorem vp.{u0,u1,u2,u3,u4} {a0:Sort u0} {a1:Sort u1} {a2:Sort u2} {a3:Sort u3} {a4:Sort u4} {A5:a0->a1->a2->a3->a4->Prop} {A6:a0->a1->a2->a3->a4->Prop} {A7:a0->a1->a2->a3->a4->Prop} {G:Prop} (h:∃ v0,∃ v1,∃ v2,∃ v3,∃ v4,(A5 v0 v1 v2 v3 v4)/\(A6 v0 v1 v2 v3 v4)/\A7 v0 v1 v2 v3 v4) (k:∀ v0,∀ v1,∀ v2,∀ v3,∀ v4,A5 v0 v1 v2 v3 v4->A6 v0 v1 v2 v3 v4->A7 v0 v1 v2 v3 v4->G):G:=Exists.elim h fun v0 h0=>Exists.elim h0 fun v1 h1=>Exists.elim h1 fun v2 h2=>Exists.elim h2 fun v3 h3=>Exists.elim h3 fun v4 h4=>k v0 v1 v2 v3 v4 h4.1 h4.2.1 h4.2.2
theorem vw.{u0,u2} {a0:Sort u0} {a2:Sort u2} {A1:a0->Prop} {A3:a0->a2->Prop} {G:Prop} (h:∃ v0,(A1 v0)/\(∃ v2,A3 v0 v2)) (k:∀ v0,A1 v0->∀ v2,A3 v0 v2->G):G:=Exists.elim h fun v0 h0=>Exists.elim h0.2 fun v2 h2=>k v0 h0.1 v2 h2
theorem xA.{u1} {a1:Sort u1} {A0:Prop} {A2:a1->Prop} {A3:a1->Prop} {G:Prop} (h:(A0)/\(∃ v1,(A2 v1)/\A3 v1)) (k:A0->∀ v1,A2 v1->A3 v1->G):G:=Exists.elim h.2 fun v1 h1=>k h.1 v1 h1.1 h1.2
theorem xD.{u2} {a2:Sort u2} {A0:Prop} {A1:Prop} {A3:a2->Prop} {G:Prop} (h:(A0)/\(A1)/\(∃ v2,A3 v2)) (k:A0->A1->∀ v2,A3 v2->G):G:=Exists.elim h.2.2 fun v2 h2=>k h.1 h.2.1 v2 h2
theorem vc.{u0,u2} {a0:Sort u0} {a2:Sort u2} {A1:a0->Prop} {A3:a0->a2->Prop} {A4:a0->a2->Prop} {G:Prop} (h:∃ v0,(A1 v0)/\(∃ v2,(A3 v0 v2)/\A4 v0 v2)) (k:∀ v0,A1 v0->∀ v2,A3 v0 v2->A4 v0 v2->G):G:=Exists.elim h fun v0 h0=>Exists.elim h0.2 fun v2 h2=>k v0 h0.1 v2 h2.1 h2.2
theorem xH.{u0,u3} {a0:Sort u0} {a3:Sort u3} {A1:a0->Prop} {A2:a0->Prop} {A4:a0->a3->Prop} {G:Prop} (h:∃ v0,(A1 v0)/\(A2 v0)/\(∃ v3,A4 v0 v3)) (k:∀ v0,A1 v0->A2 v0->∀ v3,A4 v0 v3->G):G:=Exists.elim h fun v0 h0=>Exists.elim h0.2.2 fun v3 h3=>k v0 h0.1 h0.2.1 v3 h3
theorem xx.{u1,u2} {a1:Sort u1} {a2:Sort u2} {A0:Prop} {A3:a1->a2->Prop} {A4:a1->a2->Prop} {G:Prop} (h:(A0)/\(∃ v1,∃ v2,(A3 v1 v2)/\A4 v1 v2)) (k:A0->∀ v1,∀ v2,A3 v1 v2->A4 v1 v2->G):G:=Exists.elim h.2 fun v1 h1=>Exists.elim h1 fun v2 h2=>k h.1 v1 v2 h2.1 h2.2
theorem xF.{u1} {a1:Sort u1} {A0:Prop} {A2:a1->Prop} {A3:a1->Prop} {A4:a1->Prop} {G:Prop} (h:(A0)/\(∃ v1,(A2 v1)/\(A3 v1)/\A4 v1)) (k:A0->∀ v1,A2 v1->A3 v1->A4 v1->G):G:=Exists.elim h.2 fun v1 h1=>k h.1 v1 h1.1 h1.2.1 h1.2.2
theorem vd.{u2} {a2:Sort u2} {A0:Prop} {A1:Prop} {A3:a2->Prop} {A4:a2->Prop} {G:Prop} (h:(A0)/\(A1)/\(∃ v2,(A3 v2)/\A4 v2)) (k:A0->A1->∀ v2,A3 v2->A4 v2->G):G:=Exists.elim h.2.2 fun v2 h2=>k h.1 h.2.1 v2 h2.1 h2.2
theorem vq.{u0,u3} {a0:Sort u0} {a3:Sort u3} {A1:a0->Prop} {A2:a0->Prop} {A4:a0->a3->Prop} {A5:a0->a3->Prop} {G:Prop} (h:∃ v0,(A1 v0)/\(A2 v0)/\(∃ v3,(A4 v0 v3)/\A5 v0 v3)) (k:∀ v0,A1 v0->A2 v0->∀ v3,A4 v0 v3->A5 v0 v3->G):G:=Exists.elim h fun v0 h0=>Exists.elim h0.2.2 fun v3 h3=>k v0 h0.1 h0.2.1 v3 h3.1 h3.2
theorem xy.{u1,u2} {a1:Sort u1} {a2:Sort u2} {A0:Prop} {A3:a1->a2->Prop} {A4:a1->a2->Prop} {A5:a1->a2->Prop} {G:Prop} (h:(A0)/\(∃ v1,∃ v2,(A3 v1 v2)/\(A4 v1 v2)/\A5 v1 v2)) (k:A0->∀ v1,∀ v2,A3 v1 v2->A4 v1 v2->A5 v1 v2->G):G:=Exists.elim h.2 fun v1 h1=>Exists.elim h1 fun v2 h2=>k h.1 v1 v2 h2.1 h2.2.1 h2.2.2
theorem vn.{u0,u1,u4} {a0:Sort u0} {a1:Sort u1} {a4:Sort u4} {A2:a0->a1->Prop} {A3:a0->a1->Prop} {A5:a0->a1->a4->Prop} {A6:a0->a1->a4->Prop} {G:Prop} (h:∃ v0,∃ v1,(A2 v0 v1)/\(A3 v0 v1)/\(∃ v4,(A5 v0 v1 v4)/\A6 v0 v1 v4)) (k:∀ v0,∀ v1,A2 v0 v1->A3 v0 v1->∀ v4,A5 v0 v1 v4->A6 v0 v1 v4->G):G:=Exists.elim h fun v0 h0=>Exists.elim h0 fun v1 h1=>Exists.elim h1.2.2 fun v4 h4=>k v0 v1 h1.1 h1.2.1 v4 h4.1 h4.2
theorem vz.{u0,u2} {a0:Sort u0} {a2:Sort u2} {A1:a0->Prop} {A3:a0->a2->Prop} {A4:a0->a2->Prop} {A5:a0->a2->Prop} {A6:a0->a2->Prop} {G:Prop} (h:∃ v0,(A1 v0)/\(∃ v2,(A3 v0 v2)/\(A4 v0 v2)/\(A5 v0 v2)/\A6 v0 v2)) (k:∀ v0,A1 v0->∀ v2,A3 v0 v2->A4 v0 v2->A5 v0 v2->A6 v0 v2->G):G:=Exists.elim h fun v0 h0=>Exists.elim h0.2 fun v2 h2=>k v0 h0.1 v2 h2.1 h2.2.1 h2.2.2.1 h2.2.2.2
theorem vm.{u0,u1,u4} {a0:Sort u0} {a1:Sort u1} {a4:Sort u4} {A2:a0->a1->Prop} {A3:a0->a1->Prop} {A5:a0->a1->a4->Prop} {A6:a0->a1->a4->Prop} {A7:a0->a1->a4->Prop} {G:Prop} (h:∃ v0,∃ v1,(A2 v0 v1)/\(A3 v0 v1)/\(∃ v4,(A5 v0 v1 v4)/\(A6 v0 v1 v4)/\A7 v0 v1 v4)) (k:∀ v0,∀ v1,A2 v0 v1->A3 v0 v1->∀ v4,A5 v0 v1 v4->A6 v0 v1 v4->A7 v0 v1 v4->G):G:=Exists.elim h fun v0 h0=>Exists.elim h0 fun v1 h1=>Exists.elim h1.2.2 fun v4 h4=>k v0 v1 h1.1 h1.2.1 v4 h4.1 h4.2.1 h4.2.2
open Option renaming bind_eq_some_iff→Za,map_eq_some_iff→Zb,bind_some→Yt,map_some→Y5,bind_none→U8,getD_some→G2,getD_none→G3,map_none→Bb
open PySem renaming wpAny_bind→Zc,wpAny_pure→Zi,wpAny_holding→Yq,sizeLine_eq→Y7,codeAny_builtin→W7,wpAny_Call_Name_kw→Qg,builtinLookup_eq_fast→Qh,sizeLine_eq→Qp,wpAny_call_entry→Qr,wpAny_specialOf→Qy,wpAny_passesOwn→Qz,wpAny_setState_of→Q2,wpAny_newObj_type→Q3,plainId_quiet→Q4,mem_of_lookup→Q5,wpAny_updateSeq→Ki,typeLookup_type→Kj,wpAny_truthy_bool→Kq,wpAny_askSetting→Kx,wpAny_mono→K7,wpAny_standAt→J1,wpAny_field→J2,wpAny_isInstance→Uj,wpAny_typeOf→Ut,codeAny_mono→Uu,wpAny_seqItems→U6,isSubtype_type→U7,wpAny_attempt→Vh,wpAny_pyIter_list→Vs,wpAny_forIn_list→V0,wpAny_eqBool_int→V1,wpAny_execs_nil→Gc,wpAny_setField→Gk,wpAny_comprehension_free→Gx,wpAny_pyNext_list_item→G6,wpAny_nextOf_list_item→G7,wpAny_pyNext_list_end→Bh,wpAny_eqIsQuiet_tuple→Bj,seqIndex_neg→Bk
open List renaming length_map→Zd,getElem?_eq_getElem→Ze,mem_cons→Zf,getElem?_map→Zj,length_cons→Zk,getD_eq_getElem?_getD→Zm,getElem?_eq_some_iff→Zn,length_append→Zs,mem_singleton→Zu,size_toArray→Zv,mem_of_getElem?→Zw,getElem?_append_right→Zx,map_cons→Zz,mem_map→Z1,getElem?_append_left→Z4,mem_map_of_mem→Z7,pairwise_cons→Z9,drop_eq_getElem_cons→Yd,getElem?_of_mem→Yg,mem_append_right→Yj,length_nil→Ym,mem_cons_of_mem→Yo,getElem?_set_ne→Yp,length_drop→Yr,map_append→Ys,getElem?_eq_none→Yz,length_reverse→Y4,mem_append→Y6,getElem?_set_self→Y9,length_replicate→Wc,not_mem_nil→Wd,reverse_cons→We,mem_cons_self→Wf,nodup_cons→Wg,length_set→Wh,append_assoc→Wm,nil_append→Wo,map_map→Wv,mem_append_left→W1,length_dropLast→W2,map_nil→W3,pairwise_map→W4,append_nil→W5,lookup_cons→W8,length_take→W9,all_cons→Qb,mem_range→Qd,getElem?_replicate→Qm,dropLast_concat_getLast→Qq,dropLast_eq_take→Qs,length_range→Qw,pairwise_iff_getElem→Q1,cons_append→Q6,pairwise_singleton→Ka,mem_filterMap→Kb,getElem?_cons_succ→Kc,getElem_inj→Ko,filterMap_cons→Kv,nodup_iff_pairwise_ne→Ky,getElem?_drop→K0,append_of_mem→K4,getElem?_zip_eq_some→Jb,drop_zero→Jc,getElem?_take_of_lt→Jh,ext_getElem?→Ji,getLast?_cons_cons→Jl,mem_reverse→Jr,getElem_mem→Js,take_of_length_le→Ju,getElem?_dropLast→Jv,take_append_drop→Jy,dropLast_sublist→Jz,pairwise_append→Uk,mem_of_mem_drop→Ul,mem_of_getLast?→Um,nodup_nil→Up,map_drop→Uz,nodup_append→U9,getLast?_map→Va,reverse_nil→Vf,of_mem_zip→Vm,mem_filter→Vn,length_zip→Vo,forIn_cons→Vp,foldl_cons→Vq,exists_cons_of_ne_nil→Vu,mem_or_eq_of_mem_set→Vy,head?_map→Vz,map_take→V5,length_eq_zero_iff→V6,eraseIdx_cons_succ→V7,pairwise_reverse→Gh,length_singleton→Gi,range_eq_range'→Gq,getLast?_concat→Gr,dropLast_subset→Gs,dropLast_concat→Gu,map_congr_left→Gz,getElem?_range→G0,getElem?_take→G5,mem_of_head?→Bf,range'_succ→Bs,nodup_range→Bt,drop_length→Bu
open Nat renaming le_refl→Zg,lt_of_lt_of_le→Zl,mod_eq_of_lt→Zt,ne_of_lt→Z3,ne_of_gt→Ya,zero_le→Yc,le_trans→Yn,lt_or_ge→Yw,zero_add→Y8,lt_of_le_of_lt→Wb,lt_succ_of_lt→Wq,add_mod_right→Wr,eq_zero_or_pos→Wx,add_sub_cancel→Wy,lt_succ_self→Qa,mod_lt→Qj,sub_self→Qu,le_of_lt→Q8,mod_add_mod→Kf,mod_self→Km,pow_le_pow_right→Ku,pow_succ→Ja,add_sub_assoc→Jj,le_succ→Jq,le_add_right→Jt,le_of_succ_le_succ→Jx,sub_zero→Uf,min_eq_left→Ug,add_mod→Uv,le_of_succ_le→Vc,add_comm→Ve,succ_ne_self→Vk,two_pow_pos→Vt,add_lt_add→V2,div_div_eq_div_mul→Gg,zero_mod→Go,succ_pos→Gp,mul_two→G4,mod_eq_sub_mod→Bc,lt_trichotomy→Bq,le_of_lt_succ→Br
open PySem.Heap renaming get?_push_of_some→Zh,lt_size→Zp,get?_push_size→Z8,get?_update_self→Yk,get?_update_other→Yu,size_update→Kp,size_push→Je
open Rat renaming mul_nonneg→Zo,le_of_lt→Z5,num_divInt_den→Yx,mul_pos→Wa,intCast_mul→Wi,divInt_eq_div→Wp,div_def→W0,le_refl→Qe,mul_lt_mul_right→Qi,divInt_mul_divInt→Qt,divInt_add_divInt→Kl,zero_mul→K8,one_mul→Jo,inv_pos→Jp,intCast_lt_intCast→Jw,zero_add→Ua,mul_eq_zero→Ub,intCast_sub→Uc,add_comm→Ud,mul_inv_cancel→U1,inv_mul_cancel→U2,mul_le_mul_of_nonneg_right→Vd,divInt_eq_divInt_iff→V4,mul_assoc→Ge,intCast_le_intCast→Gf,add_zero→Gm,divInt_mul_right→Gy,sub_eq_add_neg→G9,div_mul_cancel→Ba,not_lt→Bm
open Bool renaming and_eq_true→Zq,false_eq_true→Z0,false_ne_true→Z2,eq_iff_iff→Kw,not_true→Jm,or_eq_true→J0,not_false→Us,true_and→V9,and_self→Gb,beq_eq_decide_eq→Gj
open Array renaming getElem?_eq_getElem→Zr,getElem?_toList→Zy,length_toList→Z6,getElem?_eq_some_iff→Y3,getElem_toList→Qf,toList_push→Kh,forIn_toList→Kz,toList_inj→Jn,append_assoc→G1,size_push→Bv
open Int renaming mul_ne_zero→Yb,emod_nonneg→Yh,mul_fdiv_cancel_left→Yi,emod_lt_of_pos→Yl,natAbs_natCast→Yy,natAbs_mul→Wj,le_of_lt→Ww,mul_nonpos_of_nonneg_of_nonpos→W6,gcd_eq_one_iff→Qc,gcd_dvd_right→Qk,dvd_trans→Qn,mul_comm→Qv,fmod_eq_emod_of_nonneg→Qx,gcd_mul_right_right_of_gcd_eq_one→Q0,mul_nonneg→Q7,dvd_mul_of_dvd_right→Q9,natCast_nonneg→Kg,toNat_natCast→Kk,gcd_dvd_left→Kt,fdiv_eq_ediv_of_nonneg→K5,eq_of_mul_eq_mul_right→K6,lt_or_eq_of_le→Jd,natAbs_add_le→Jk,zero_mul→Uh,mul_eq_zero→Ui,not_lt→Uo,mul_dvd_mul_left→Uq,mul_pos→Uw,le_refl→Ux,mul_nonpos_of_nonpos_of_nonneg→U0,mul_assoc→U3,mul_le_mul_of_nonneg_right→Vg,mul_one→Vv,dvd_coe_gcd→Vw,natAbs_neg→V3,zero_dvd→Gv,add_zero→Gw
open Option.some renaming inj→Ye
open Classical renaming byContradiction→Yf
open Prod renaming ext→Yv
open Ne renaming symm→Wk
open PyProof.Rows renaming callWith_type1→Wl,listUpdate_at→J3,callWith_builtin1→Ue,assignInOrder_cons→Vi,subscriptTail_builtinR→G8,listItems_at→Bl
open PySem.Around renaming under_plainId→Wn
open PySem.F renaming plain_extend_loop→Wu,called_set→Ke,slot_zip_next→Ur,entry_extend_loop→U4,plainAttrs_list→Vl
open PySem.Heap.SameBut renaming update→Wz
open PySem.SetTable renaming insertAt_perm→Ql,toList_insertAt→Vj
open PyProof.Rows.F renaming plain_set_update_loop→Qo,entry_set_update_loop→Jg
open List.Perm renaming refl→Kd
open PySem.W renaming kia_one→Kr,cellsFrom_some→Vx,mg_of→Bn
open List.Pairwise renaming imp_of_mem→Ks
open PySem.Obj renaming data_mapFields→K9,isFreed_of_fields→Gn,cls_mapFields→Bo
open PySem.Value renaming isInt_shape→Jf
open PySem.Calls renaming spliced_cons→Uy,spliced_nil→U5,Name_function_global→Vr,callWith_builtin→V8
open PySem.IsTupleKey renaming inj→Vb
open Decidable renaming em→Bg
namespace L2
open PySem PySem.Spec PyProof.Rows
abbrev Key:=Sum Int Str
def keyIs:Key->Value->Bool
 | .inl k,v=>Value.isInt k v
 | .inr x,v=>Value.isStrOf x v
def keyH (w:World):Key->Int
 | .inl k=>hashInt k
 | .inr x=>hashStr w x
theorem zas:∀ {k:Key} {v:Value},keyIs k v=true->(∃ i t,k=Sum.inl i/\v=Value.int i t)\/(∃ x t,k=Sum.inr x/\v=Value.str x t)
 | .inl i,v,h=>by
  refine xb (Jf (k:=i) (v:=v) h) fun t e=>?_;exact .inl ⟨i,t,rfl,e⟩
 | .inr x,v,h=>by
  refine xb (Value.isStrOf_shape (x:=x) (v:=v) h) fun t e=>?_;exact .inr ⟨x,t,rfl,e⟩
theorem key_ll (a b:Int):decide ((Sum.inl a:Key)=Sum.inl b)=(a == b):=by
 by_cases e:a=b
 ·subst e;simp
 ·have h:¬ (Sum.inl a:Key)=Sum.inl b:=fun q=>e (Sum.inl.inj q)
  rw [decide_eq_false h];exact (beq_eq_false_iff_ne.mpr e).symm
theorem key_rr (a b:Str):decide ((Sum.inr a:Key)=Sum.inr b)=decide (a=b):=by
 by_cases e:a=b
 ·subst e;simp
 ·have h:¬ (Sum.inr a:Key)=Sum.inr b:=fun q=>e (Sum.inr.inj q)
  rw [decide_eq_false h,decide_eq_false e]
theorem key_lr (a:Int) (b:Str):decide ((Sum.inl a:Key)=Sum.inr b)=false:=decide_eq_false (fun q=>nomatch q)
theorem key_rl (a:Str) (b:Int):decide ((Sum.inr a:Key)=Sum.inl b)=false:=decide_eq_false (fun q=>nomatch q)
def zxf (prog:Program) (w:World):PySem.KeyKind prog w Key where
 is:=keyIs
 hash:=keyH w
 inj:=fun v a b ha hb=>by
  rcases zas ha with⟨i,t,rfl,rfl⟩ | ⟨x,t,rfl,rfl⟩
  ·rcases zas hb with⟨j,u,rfl,e⟩ | ⟨y,u,rfl,e⟩
   ·injection e with e1 _;rw [e1]
   ·exact nomatch e
  ·rcases zas hb with⟨j,u,rfl,e⟩ | ⟨y,u,rfl,e⟩
   ·exact nomatch e
   ·injection e with e1 _;rw [e1]
 byValue:=fun k v h=>by
  rcases zas h with⟨i,t,rfl,rfl⟩ | ⟨x,t,rfl,rfl⟩ <;> rfl
 pyHash:=fun hv h=>by
  rcases zas hv with⟨i,t,rfl,rfl⟩ | ⟨x,t,rfl,rfl⟩
  ·exact wpAny_pyHash_int h
  ·exact wpAny_pyHash_str h
 eqBool:=fun hu hv h=>by
  rcases zas hu with⟨i,t,rfl,rfl⟩ | ⟨x,t,rfl,rfl⟩
  ·rcases zas hv with⟨j,u,rfl,rfl⟩ | ⟨y,u,rfl,rfl⟩
   ·rw [key_ll] at h;exact V1 h
   ·rw [key_lr] at h;exact SeqAt.EqAt.int_str i t y u _ _ _ _ h
  ·rcases zas hv with⟨j,u,rfl,rfl⟩ | ⟨y,u,rfl,rfl⟩
   ·rw [key_rl] at h;exact SeqAt.EqAt.str_int x t j u _ _ _ _ h
   ·rw [key_rr] at h;exact wpAny_eqBool_str h
 «strs» := fun k x t v h=>by
  rcases zas h with⟨i,u,rfl,e⟩ | ⟨y,u,rfl,e⟩
  ·exact nomatch e
  ·injection e with e1 _
   subst e1;cases v <;> rfl
end L2
namespace L2
open PySem PySem.Spec PyProof.Rows
set_option genInjectivity true in
inductive V where
 | non | bl (b:Bool) | int (i:Int) | str (x:Str) | byt (b:Array UInt8) | flt (b:UInt64) | ref (a:Addr) | ty (n:String)
 deriving DecidableEq
def RelV:V->Value->Prop
 | .non,u=>u=Value.none
 | .bl b,u=>u=Value.bool b
 | .int i,u=>∃ t,u=Value.int i t
 | .str x,u=>∃ t,u=Value.str x t
 | .byt b,u=>∃ t,u=Value.bytes b t
 | .flt b,u=>∃ t,u=Value.float b t
 | .ref a,u=>u=Value.ref a
 | .ty n,u=>u=Value.type n
abbrev Vals:List V->List Value->Prop:=Paired RelV
theorem Vals.length {xs:List V} {us:List Value} (r:Vals xs us):xs.length=us.length:=Paired.length r
theorem Vals.get:∀ {xs:List V} {us:List Value} {i:Nat} {x:V},Vals xs us->xs[i]? = some x->∃ u,us[i]? = some u/\RelV x u
 | _,_,_,_,.nil,e=>by simp at e
 | _,_,0,_,.cons r _,e=>by simp at e;subst e;exact⟨_,rfl,r⟩
 | _,_,i+1,x,.cons _ t,e=>by
  refine xa (Vals.get (i:=i) (x:=x) t (by simpa using e)) fun u h1 h2=>?_;exact⟨u,by simpa using h1,h2⟩
theorem Vals.set {x:V} {u:Value} (r:RelV x u):∀ {xs:List V} {us:List Value} (i:Nat),Vals xs us->Vals (xs.set i x) (us.set i u)
 | _,_,_,.nil=>.nil
 | _,_,0,.cons _ t=>.cons r t
 | _,_,i+1,.cons q t=>.cons q (Vals.set r i t)
theorem Vals.append:∀ {xs ys:List V} {us ws:List Value},Vals xs us->Vals ys ws->Vals (xs++ys) (us++ws)
 | _,_,_,_,.nil,s=>s
 | _,_,_,_,.cons r t,s=>.cons r (Vals.append t s)
theorem Vals.take:∀ {xs:List V} {us:List Value} (n:Nat),Vals xs us->Vals (xs.take n) (us.take n)
 | _,_,0,_=>.nil
 | _,_,_+1,.nil=>.nil
 | _,_,n+1,.cons r t=>.cons r (Vals.take n t)
theorem Vals.drop:∀ {xs:List V} {us:List Value} (n:Nat),Vals xs us->Vals (xs.drop n) (us.drop n)
 | _,_,0,r=>r
 | _,_,_+1,.nil=>.nil
 | _,_,n+1,.cons _ t=>Vals.drop n t
def RelO:Option V->Option Value->Prop
 | some v,some u=>RelV v u
 | none,none=>True
 | _,_=>False
def KV {κ:Type}:List (κ×V)->List (κ×Value)->Prop:=Paired fun (p:κ×V) (q:κ×Value)=>p.1=q.1/\RelV p.2 q.2
def kV:Key->V
 | .inl i=>.int i
 | .inr x=>.str x
inductive HO where
  | lst (xs:List V)
  | tup (xs:List V)
  | dK (kvs:List (Key×V)) | dT (kvs:List (List Key×V))
  | set (S:Int->Bool) (n:Nat)
  | ins (C dx:Addr) (fs:List (Str×V))
  | own (x:Addr)
  | xd (fs:List (Str×V))
  | met (f x:Addr)
  | rng (lo hi:Int)
  | frz (o:Obj) (u:HO)
  | tbl (ps:Array Value)
  | ext (φ:Heap->Prop)
abbrev Hp:=Addr->Option HO
def upd (H:Hp) (a:Addr) (o:HO):Hp:=fun b=>if b=a then some o else H b
theorem B5 {H:Hp} {a:Addr} {o:HO}:upd H a o a=some o:=by unfold upd;rw [if_pos rfl]
theorem zaa {H:Hp} {a b:Addr} {o:HO} (h:b≠a):upd H a o b=H b:=by unfold upd;rw [if_neg h]
theorem zcy {H:Hp} {a b:Addr} {o:HO} (h:H a=some o) (h':H b=none):a≠b:=by
 intro e;subst e;rw [h] at h';cases h'
section
variable (P:Program) (w:World)
def ObjOk (H:Hp) (h:Heap) (a:Addr):HO->Prop
 | .lst xs=>xs.length<=sizeLine/\∃ (its:List Value) (n:Nat),Vals xs its/\h.get? a=some {cls:=.type "list", data:=.seq its.toArray n}
 | .tup xs=>xs.length<=sizeLine/\∃ its:List Value,Vals xs its/\IsTup h a its.toArray
 | .dK kvs=>kvs.length<=sizeLine/\(a == sysModules)=false/\∃ vs,KV kvs vs/\h.DictOf (zxf P w) a vs
 | .dT kvs=>kvs.length<=sizeLine/\(a == sysModules)=false/\∃ xs:List (List Key×Addr×Value),
   Paired (fun (p:List Key×V) (q:List Key×Addr×Value)=>p.1=q.1/\H q.2.1=some (.tup (p.1.map kV))/\RelV p.2 q.2.2) kvs xs /\
   ∃ o es ep,h.get? a=some o/\o.ExactDict/\o.data=.dict es ep/\es.toList=xs.map (entryOfKey (tupleKind (zxf P w)))/\(xs.map (·.1)).Nodup
 | .set S n=>h.SetOf (intKind P w) a S n
 | .ins C dx fs=>H dx=some (.own a)/\fs.length<=1000/\dx≠a/\h.get? a=some (PySem.W.instObj C dx) /\
   ∃ mA,h.Ns1 dx mA/\(∀ f,RelO (fs.lookup f) (mA f))/\PySem.Within mA (fs.map (·.1))
 | .own _=>∃ o,h.get? a=some o
 | .xd fs=>∃ mA,h.Ns1 a mA/\∀ f,RelO (fs.lookup f) (mA f)
 | .rng lo hi=>∃ t u v,h.get? a=some {cls:=.type "range", data:=.fields #[.int lo t,.int hi u,.int 1 v]}
 | .frz o u=>h.get? a=some o/\ObjOk H h a u
 | .tbl ps=>h.get? a=some {cls:=.none,data:=.fields ps}
 | .met f x=>h.get? a=some (PySem.W.methodObj (.ref f) (.ref x))
 | .ext φ=>φ h/\(∃ o,h.get? a=some o)/\∀ h1 h2:Heap,φ h1->(∀ o,h1.get? a=some o->h2.get? a=some o)->φ h2
def HOk (H:Hp) (h:Heap):Prop:=∀ a o,H a=some o->ObjOk P w H h a o
end
section
variable {P:Program} {w:World} {H H':Hp} {h h':Heap} {a:Addr} {o:HO}
theorem ObjOk.lt (x:ObjOk P w H h a o):a<h.objs.size:=by
 cases o with
 | lst xs=>refine xx x fun _ _ _ _ e=>?_;clear x;exact Zp e
 | tup xs=>refine xA x fun _ _ _ p=>?_;clear x;exact p.lt
 | dK kvs=>obtain⟨_,_,_,_,o,_,_,e,_⟩:=x;exact Zp e
 | dT kvs=>obtain⟨_,_,_,_,o,_,_,e,_⟩:=x;exact Zp e
 | set S n=>refine xG x fun o _ _ _ e _=>?_;clear x;exact Zp e
 | ins C dx fs=>refine xv x fun _ _ _ e _=>?_;clear x;exact Zp e
 | own y=>refine xb x fun _ e=>?_;clear x;exact Zp e
 | xd fs=>obtain⟨_,⟨_,_,_,e,_⟩,_⟩:=x;exact Zp e
 | rng lo hi=>refine xq x fun _ _ _ e=>?_;clear x;exact Zp e
 | frz ob u=>refine xg x fun e _=>?_;clear x;exact Zp e
 | tbl ps=>exact Zp (show h.get? a=some _ from x)
 | met f y=>exact Zp (show h.get? a=some _ from x)
 | ext φ=>obtain⟨_,⟨_,e⟩,_⟩:=x;exact Zp e
theorem Paired.mapP {α β:Type} {F G:α->β->Prop}:∀ {l₁:List α} {l₂:List β},Paired F l₁ l₂->(∀ a b,F a b->G a b)->Paired G l₁ l₂:=fun h f=>by
 induction h with
 | nil=>exact .nil
 | cons r t ih=>exact .cons (f _ _ r) ih
theorem ObjOk.stay (x:ObjOk P w H h a o) (k:∀ b u,(b=a\/H b=some (.own a))->h.get? b=some u->h'.get? b=some u)
  (ho:∀ b,H b=some (.own a)->H' b=some (.own a)) (ht:∀ b xs,H b=some (.tup xs)->H' b=some (.tup xs)):ObjOk P w H' h' a o:=by
 induction o with
 | lst xs=>refine xx x fun z its n r e=>?_;clear x;exact⟨z,its,n,r,k _ _ (.inl rfl) e⟩
 | tup xs=>obtain⟨z,its,r,ob,e,c⟩:=x;exact⟨z,its,r,ob,k _ _ (.inl rfl) e,c⟩
 | dK kvs=>obtain⟨z,y,vs,r,ob,es,ep,e,c⟩:=x;exact⟨z,y,vs,r,ob,es,ep,k _ _ (.inl rfl) e,c⟩
 | dT kvs=>
  obtain⟨z,y,xs,r,ob,es,ep,e,c⟩:=x
  exact⟨z,y,xs,Paired.mapP r fun p q z=>⟨z.1,ht _ _ z.2.1,z.2.2⟩,ob,es,ep,k _ _ (.inl rfl) e,c⟩
 | set S n=>refine xG x fun ob es ep t e c=>?_;clear x;exact⟨ob,es,ep,t,k _ _ (.inl rfl) e,c⟩
 | ins C dx fs=>
  obtain⟨d,z,ne,e,mA,⟨od,es,ep,e2,c⟩,r⟩:=x
  exact⟨ho _ d,z,ne,k _ _ (.inl rfl) e,mA,⟨od,es,ep,k _ _ (.inr d) e2,c⟩,r⟩
 | own y=>refine xb x fun ob e=>?_;clear x;exact⟨ob,k _ _ (.inl rfl) e⟩
 | xd fs=>obtain⟨mA,⟨od,es,ep,e,c⟩,r⟩:=x;exact⟨mA,⟨od,es,ep,k _ _ (.inl rfl) e,c⟩,r⟩
 | rng lo hi=>refine xq x fun t u v e=>?_;clear x;exact⟨t,u,v,k _ _ (.inl rfl) e⟩
 | frz ob u ih=>refine xg x fun e q=>?_;clear x;exact⟨k _ _ (.inl rfl) e,ih q⟩
 | tbl ps=>
  have e:h.get? a=some {cls:=.none,data:=.fields ps}:=x;show h'.get? a=some {cls:=.none,data:=.fields ps};exact k a _ (.inl rfl) e
 | met f y=>
  have e:h.get? a=some (PySem.W.methodObj (.ref f) (.ref y)):=x;show h'.get? a=some (PySem.W.methodObj (.ref f) (.ref y));exact k a _ (.inl rfl) e
 | ext φ=>obtain⟨p,⟨o,e⟩,st⟩:=x;exact⟨st _ _ p fun o q=>k _ _ (.inl rfl) q,⟨o,k _ _ (.inl rfl) e⟩,st⟩
theorem HOk.lt (x:HOk P w H h) (e:H a=some o):a<h.objs.size:=(x a o e).lt
theorem HOk.fresh (x:HOk P w H h) (e:h.objs.size<=a):H a=none:=by
 cases q:H a with
 | none=>rfl
 | some u=>exact absurd (Zl (x.lt q) e) (Nat.lt_irrefl _)
theorem HOk.kept (x:HOk P w H h) (k:∀ b u,h.get? b=some u->h'.get? b=some u):HOk P w H h':=fun a o e=>
 (x a o e).stay (fun b u _ q=>k b u q) (fun _ q=>q) fun _ _ q=>q
theorem HOk.laid (x:HOk P w H h) (k:∀ b u,h.get? b=some u->h'.get? b=some u) (hp:h.objs.size<=a) (new:ObjOk P w (upd H a o) h' a o):HOk P w (upd H a o) h':=fun b u e=>by
 have hn:=x.fresh hp;by_cases hb:b=a
 ·subst hb;rw [B5] at e;cases e;exact new
 ·rw [zaa hb] at e;exact (x b u e).stay (fun c v _ q=>k c v q) (fun c q=>by rw [zaa (zcy q hn)];exact q) fun c xs q=>by rw [zaa (zcy q hn)];exact q
end
def Rd (H:Hp) (a:Addr) (u:HO):Prop:=H a=some u\/∃ o,H a=some (.frz o u)
theorem Rd.of {H:Hp} {a:Addr} {u:HO} (h:H a=some u):Rd H a u:=.inl h
theorem Rd.ok {P:Program} {w:World} {H:Hp} {h:Heap} {a:Addr} {u:HO} (r:Rd H a u) (x:HOk P w H h):ObjOk P w H h a u:=by
 rcases r with r | ⟨o,r⟩
 ·exact x a u r
 ·refine xg (x a _ r) fun _ q=>?_;exact q
def Mut:Option HO->Prop
 | some (.lst _)=>True
 | some (.dK _)=>True
 | some (.dT _)=>True
 | some (.set _ _)=>True
 | some (.ins _ _ _)=>True
 | some (.ext _)=>True
 | _=>False
section
variable {P:Program} {w:World} {H:Hp} {h h':Heap} {x e:Addr} {o':HO}
theorem HOk.write (ok:HOk P w H h) (mu:Mut (H x)) (he:e=x\/H e=some (.own x)) (k:∀ b u,b≠e->h.get? b=some u->h'.get? b=some u) (heo:∃ u,h'.get? e=some u)
  (new:ObjOk P w (upd H x o') h' x o'):HOk P w (upd H x o') h':=fun b u q=>by
 have nown:∀ c y,H c=some (.own y)->c≠x:=fun c y r z=>by subst z;rw [r] at mu;exact mu
 have ntup:∀ c xs,H c=some (.tup xs)->c≠x:=fun c xs r z=>by subst z;rw [r] at mu;exact mu
 by_cases hb:b=x
 ·subst hb;rw [B5] at q;cases q;exact new
 ·rw [zaa hb] at q;by_cases hbe:b=e
  ·have q':H b=some (.own x):=by
    rcases he with z | z
    ·exact absurd (hbe.trans z) hb
    ·rw [hbe];exact z
   rw [q] at q';cases q';refine xb heo fun v hv=>?_;clear heo
   exact⟨v,by rw [hbe];exact hv⟩
  ·refine (ok b u q).stay (fun c v hc r=>k c v ?_ r) (fun c r=>by rw [zaa (nown c b r)];exact r) fun c xs r=>by rw [zaa (ntup c xs r)];exact r
   rcases hc with rfl | hc
   ·exact hbe
   ·rintro rfl
    rcases he with z | z
    ·exact nown c b hc z
    ·rw [hc] at z;cases z;exact hb rfl
end
structure Un (fs ex:List Addr) (H H':Hp) (h h':Heap):Prop where
 keep:∀ b o,h.get? b=some o->H b=none->b∉fs->b∉ex->h'.get? b=some o
 slot:∀ b o,h.get? b=some o->H b=none->b∈fs->b∉ex->∃ sl,h'.get? b=some {o with slots:=sl}
 free:∀ b o,h.get? b=some o->H b=none->b∉ex->H' b=none
 there:∀ b o,h.get? b=some o->b∉ex->∃ o',h'.get? b=some o'
 tups:∀ b xs,H b=some (.tup xs)->H' b=some (.tup xs)
 frzs:∀ b o u,H b=some (.frz o u)->H' b=some (.frz o u)
 tbls:∀ b ps,H b=some (.tbl ps)->∃ more,H' b=some (.tbl (ps++more))
section
variable {fs fs' ex ex':List Addr} {H H1 H2:Hp} {h h1 h2 h':Heap} {a x e:Addr} {o:HO}
theorem Un.any (u:Un fs ex H H1 h h1) {b:Addr} {ob:Obj} (q:h.get? b=some ob) (n:H b=none) (hx:b∉ex):∃ sl,h1.get? b=some {ob with slots:=sl}:=by
 by_cases hb:b∈fs
 ·exact u.slot b ob q n hb hx
 ·exact⟨ob.slots,u.keep b ob q n hb hx⟩
theorem Un.trans (a:Un fs ex H H1 h h1) (b:Un fs ex H1 H2 h1 h2):Un fs ex H H2 h h2 where
 keep:=fun c ob q n hc hx=>b.keep c ob (a.keep c ob q n hc hx) (a.free c ob q n hx) hc hx
 slot:=fun c ob q n hc hx=>by
  refine xb (a.slot c ob q n hc hx) fun sl e1=>?_;refine xb (b.slot c _ e1 (a.free c ob q n hx) hc hx) fun sl' e2=>?_;exact⟨sl',e2⟩
 free:=fun c ob q n hx=>by
  refine xb (a.there c ob q hx) fun o' e1=>?_;exact b.free c o' e1 (a.free c ob q n hx) hx
 there:=fun c ob q hx=>by
  refine xb (a.there c ob q hx) fun o' e1=>?_;exact b.there c o' e1 hx
 tups:=fun c xs q=>b.tups c xs (a.tups c xs q)
 frzs:=fun c ob xs q=>b.frzs c ob xs (a.frzs c ob xs q)
 tbls:=fun c ps q=>by
  refine xb (a.tbls c ps q) fun m1 e1=>?_;refine xb (b.tbls c _ e1) fun m2 e2=>?_;exact⟨m1++m2,by rw [e2,G1]⟩
theorem Un.kept (k:∀ b u,h.get? b=some u->h'.get? b=some u):Un fs ex H H h h':=
 ⟨fun b ob q _ _ _=>k b ob q,fun b ob q _ _ _=>⟨ob.slots,k b ob q⟩,fun _ _ _ n _=>n,fun b ob q _=>⟨ob,k b ob q⟩,fun _ _ q=>q,fun _ _ _ q=>q,fun _ ps q=>⟨#[],by rw [q];simp⟩⟩
theorem Un.refl:Un fs ex H H h h:=Un.kept fun _ _ q=>q
theorem Un.laid (k:∀ b u,h.get? b=some u->h'.get? b=some u) (hp:h.objs.size<=a) (hn:H a=none):Un fs ex H (upd H a o) h h' where
 keep:=fun b u q _ _ _=>k b u q
 slot:=fun b u q _ _ _=>⟨u.slots,k b u q⟩
 free:=fun b u q n _=>by rw [zaa (Z3 (Zl (Zp q) hp))];exact n
 there:=fun b u q _=>⟨u,k b u q⟩
 tups:=fun b xs q=>by rw [zaa (zcy q hn)];exact q
 frzs:=fun b u xs q=>by rw [zaa (zcy q hn)];exact q
 tbls:=fun b ps q=>⟨#[],by rw [zaa (zcy q hn),q];simp⟩
theorem Un.write (mu:Mut (H x)) (he:e=x\/H e=some (.own x)) (k:∀ b u,b≠e->h.get? b=some u->h'.get? b=some u) (heo:∃ u,h'.get? e=some u):Un fs ex H (upd H x o) h h':=by
 have hx:∀ b,H b=none->b≠x:=fun b n z=>by subst z;rw [n] at mu;exact mu
 have hb:∀ b,H b=none->b≠e:=fun b n z=>by
  subst z;rcases he with r | r
  ·exact hx b n r
  ·rw [n] at r;cases r
 have hm:∀ b u,H b=some u -> ¬ Mut (some u)->b≠x:=fun b u q nm z=>by subst z;rw [q] at mu;exact nm mu
 refine⟨fun b u q n _ _=>k b u (hb b n) q,fun b u q n _ _=>⟨u.slots,k b u (hb b n) q⟩,fun b u q n _=>by rw [zaa (hx b n)];exact n,fun b u q _=>?_,
  fun b xs q=>by rw [zaa (hm b _ q fun z=>z)];exact q,fun b u xs q=>by rw [zaa (hm b _ q fun z=>z)];exact q,fun b ps q=>⟨#[],by rw [zaa (hm b _ q fun z=>z),q];simp⟩⟩
 by_cases hbe:b=e
 ·subst hbe;exact heo
 ·exact⟨u,k b u hbe q⟩
theorem Un.mono (u:Un fs ex H H1 h h1) (hs:∀ b∈fs,b∈fs') (hx:∀ b∈ex,b∈ex'):Un fs' ex' H H1 h h1:=
 ⟨fun b ob q n hb he=>u.keep b ob q n (fun z=>hb (hs b z)) fun z=>he (hx b z),fun _ _ q n _ he=>u.any q n fun z=>he (hx _ z),fun b ob q n he=>u.free b ob q n fun z=>he (hx b z),fun b ob q he=>u.there b ob q fun z=>he (hx b z),u.tups,u.frzs,u.tbls⟩
end
def trk (h:Heap) (H:Hp):List Addr:=(List.range h.objs.size).filter fun a=>(H a).isSome
def hidT (h:Heap) (H:Hp):Heap:=PySem.W.hideAll h (trk h H)
theorem zxz (h:Heap) (H:Hp):(hidT h H).objs.size=h.objs.size:=PySem.W.hideAll_size _ _
theorem ydk {h:Heap} {H:Hp} {b:Addr} {o:Obj} (e:h.get? b=some o) (n:H b=none):(hidT h H).get? b=some o:=
 PySem.W.hideAll_get _ e fun hm=>by
  have q:(H b).isSome=true:=(Vn.mp hm).2;rw [n] at q;simp at q
theorem yjb {h:Heap} {H:Hp} {b:Addr} {o:Obj} (e:(hidT h H).get? b=some o):h.get? b=some o/\H b=none:=by
 have e':h.get? b=some o:=PySem.W.of_hideAll (trk h H) e;refine⟨e',?_⟩
 cases q:H b with
 | none=>rfl
 | some x=>
  have hm:b∈trk h H:=Vn.mpr ⟨Qd.mpr (Zp e'),by simp [q]⟩;have z:(hidT h H).get? b=none:=PySem.W.hideAll_none (trk h H) hm;rw [z] at e;cases e
end L2
namespace L2
open PySem PySem.Spec PyProof.Rows
structure Mod (K:PySem.W.Frag) (mg:Str->Option Value) (base:Heap):Prop where
 kin:K.In base
 glob:base.Ns mainGlobals mg
 blt:∃ mb,base.Ns builtinsNs mb/\∀ x:Str,x ≠ "__name__" -> mb x=bootBuiltins x
 nolimit:base.NoLimit
structure Cx where
 prog:Program
 w:World
 K:PySem.W.Frag
 mg:Str->Option Value
 base:Heap
 A:Around
 N:List Str
 s₀:Shared
 H₀:Hp
 env:Env
 outer:List Env
 stack:List Env
 ex:List Addr
 fn:Str->Bool
 calm:Bool
 pn:List (Addr×Obj)
 xe:Value->Shared->Prop
def frs (l:List Env):List Addr:=l.filterMap (·.frame)
abbrev Cx.fs (X:Cx):List Addr:=frs X.outer
def Vis (sc:Scope) (x:Str):Prop:=sc.names.lookup x=some .local\/sc.names.lookup x=some .cell\/sc.names.lookup x=some .free
def Loc (sc:Scope) (x:Str):Prop:=sc.names.lookup x=some .local\/sc.names.lookup x=some .cell
def Look (env:Env) (h:Heap) (m:Str->Option Value) (x:Str) (u:Value):Prop:=
 (env.kindOf x=some .local/\m x=some u)\/((env.kindOf x=some .cell\/env.kindOf x=some .free)/\∃ c,env.cells.lookup x=some c/\h.IsCell c (some u))
structure Cx.Ok (X:Cx):Prop where
 mod:Mod X.K X.mg X.base
 kind:X.env.scope.kind=.function
 glob:X.env.globals=mainGlobals
 blt:X.env.builtins=builtinsNs
 above:X.s₀.heap.objs.size<=X.env.locals
 inj:∀ x y c,X.env.cells.lookup x=some c->X.env.cells.lookup y=some c->x=y
 has:∀ x,(X.env.kindOf x=some .cell\/X.env.kindOf x=some .free)->∃ c,X.env.cells.lookup x=some c
 cab:∀ x c,X.fn x=true->X.env.cells.lookup x=some c->X.s₀.heap.objs.size<=c
 hd:X.calm=true->X.A.handled=none
 frames:X.A.frames=some X.stack
 stk:X.stack=X.outer\/(X.stack=X.env::X.outer/\X.env.frame=some X.env.locals)
 exf:∀ b∈X.ex,b≠X.env.locals/\∀ x c,X.env.cells.lookup x=some c->c≠b
 bs:∀ b o,X.base.get? b=some o->X.s₀.heap.get? b=some o/\X.H₀ b=none
 bsz:X.base.objs.size<=X.s₀.heap.objs.size
 noex:∀ b o,X.base.get? b=some o->b∉X.ex
 exfs:∀ b∈X.ex,b∉X.fs
 funs:X.s₀.heap.FunFrames X.base X.outer
 frf:∀ b∈X.fs,X.H₀ b=none
structure Inv (X:Cx) (pins:List (Addr×Obj)) (σ:List (Option V)) (H:Hp) (s:Shared):Prop where
 ok:X.Ok
 os:s.os=X.s₀.os
 bare:AllBare s.gens
 base:Un X.fs X.ex X.H₀ H X.s₀.heap s.heap
 loc:∃ m,s.heap.Ns X.env.locals m/\∀ (i:Nat) (x:Str) (v:V),X.N[i]? = some x->σ[i]? = some (some v)->Vis X.env.scope x->∃ u,RelV v u/\Look X.env s.heap m x u
 cell:∀ x c,X.env.cells.lookup x=some c->∃ v,s.heap.IsCell c v
 free:H X.env.locals=none
 freeC:∀ x c,X.env.cells.lookup x=some c->H c=none
 pin:∀ p∈X.pn++pins,s.heap.get? p.1=some p.2/\H p.1=none/\p.1≠X.env.locals/\p.1∉X.fs/\∀ v,p.2.data ≠ .cell v
 hok:HOk X.prog X.w H s.heap
 len:σ.length=X.N.length
section
variable {X:Cx} {pins:List (Addr×Obj)} {σ:List (Option V)} {H H':Hp} {s:Shared} {h':Heap}
theorem Cx.Ok.nofr (ok:X.Ok) {b:Addr} {o:Obj} (e:X.base.get? b=some o):b∉X.fs:=fun hb=>by
 have:=(ok.funs.mem hb).1
 rw [e] at this;cases this
theorem Inv.bs (I:Inv X pins σ H s):∀ b o,X.base.get? b=some o->s.heap.get? b=some o/\H b=none:=fun b o e=>
 ⟨I.base.keep b o (I.ok.bs b o e).1 (I.ok.bs b o e).2 (I.ok.nofr e) (I.ok.noex b o e),I.base.free b o (I.ok.bs b o e).1 (I.ok.bs b o e).2 (I.ok.noex b o e)⟩
theorem Inv.bk (I:Inv X pins σ H s):∀ b o,X.base.get? b=some o->s.heap.get? b=some o:=fun b o e=>(I.bs b o e).1
theorem Inv.mod (I:Inv X pins σ H s):Mod X.K X.mg X.base:=I.ok.mod
theorem Inv.kIn (I:Inv X pins σ H s):X.K.In s.heap:=I.ok.mod.kin.keeps I.bk
theorem Inv.fr (I:Inv X pins σ H s):∃ m,Fr X.base X.env.locals s.heap m:=
 let ⟨m,hn,_⟩:=I.loc
 ⟨m,hn,I.bk,Yn I.ok.bsz I.ok.above⟩
theorem Inv.lt (I:Inv X pins σ H s):X.env.locals<s.heap.objs.size:=let ⟨_,hn,_⟩:=I.loc;hn.lt
theorem Inv.sz (I:Inv X pins σ H s):X.s₀.heap.objs.size<=s.heap.objs.size:=Yn I.ok.above (Q8 I.lt)
theorem Inv.nofs (I:Inv X pins σ H s) {a:Addr} (h:s.heap.objs.size<=a):a∉X.fs:=fun hb=>by
 refine xA (I.ok.funs.mem hb) fun _ o ho _=>?_;exact absurd (Zl (Zp ho) (Yn I.sz h)) (Nat.lt_irrefl _)
theorem Inv.cne (I:Inv X pins σ H s):∀ x c,X.env.cells.lookup x=some c->c≠X.env.locals:=fun x c e z=>by
 refine xj (I.cell x c e) fun v o ho hd=>?_;obtain⟨m,⟨o',es,ep,ho',hd',_⟩,_⟩:=I.loc
 rw [z,ho'] at ho;cases ho;rw [hd'] at hd;cases hd
theorem Inv.funs (I:Inv X pins σ H s):s.heap.FunFrames X.base X.outer:=by
 have all:∀ (l:List Env),(∀ b∈frs l,b∈X.fs)->X.s₀.heap.FunFrames X.base l->s.heap.FunFrames X.base l:=by
  intro l;induction l with
  | nil=>intro _ _;trivial
  | cons env r ih=>
   intro hs hl;obtain⟨hk,⟨L,o,hf,hn,ho,hd⟩,hr⟩:=hl
   have hL:L∈X.fs:=hs L (by unfold frs;rw [Kv,hf];exact Wf);refine xb (I.base.slot L o ho (I.ok.frf L hL) hL fun z=>I.ok.exfs L z hL) fun sl e=>?_;exact⟨hk,⟨L,_,hf,hn,e,hd⟩,ih (fun b hb=>hs b (by unfold frs;rw [Kv,hf];exact Yo _ hb)) hr⟩
 exact all X.outer (fun _ hb=>hb) I.ok.funs
theorem Inv.stack (I:Inv X pins σ H s):s.heap.FunFrames X.base X.stack:=by
 rcases I.ok.stk with e | ⟨e,hf⟩
 ·rw [e];exact I.funs
 ·rw [e];refine xa I.loc fun m hn _=>?_;refine .cons (by rw [I.ok.kind];decide) hf hn ?_ I.funs;exact Heap.get?_none_of_le (Yn I.ok.bsz I.ok.above)
theorem Inv.stkSub (I:Inv X pins σ H s):∀ b∈frs X.stack,b∈X.env.locals::X.fs:=fun b hb=>by
 rcases I.ok.stk with e | ⟨e,hf⟩
 ·rw [e] at hb;exact Yo _ hb
 ·rw [e] at hb;unfold frs at hb;rw [Kv,hf] at hb;exact hb
theorem Inv.stkFree (I:Inv X pins σ H s):∀ b∈frs X.stack,H b=none:=fun b hb=>by
 rcases Zf.mp (I.stkSub b hb) with e | hb
 ·rw [e];exact I.free
 ·refine xA (I.ok.funs.mem hb) fun _ o ho _=>?_;exact I.base.free b o ho (I.ok.frf b hb) fun z=>I.ok.exfs b z hb
theorem Inv.step {g':Array GenState} {t':Nat} {d':Drawn} {ch:List Addr} (I:Inv X pins σ H s)
  (hch:∀ b∈ch,(b∈X.ex\/X.s₀.heap.objs.size<=b)/\b≠X.env.locals/\(∀ x c,X.env.cells.lookup x=some c->c≠b)/\∀ p∈X.pn++pins,p.1≠b)
  (keep:∀ b o,b≠X.env.locals->b∉X.fs->b∉ch->s.heap.get? b=some o->H b=none->h'.get? b=some o)
  (slot:∀ b o,b≠X.env.locals->b∈X.fs->b∉ch->s.heap.get? b=some o->H b=none->∃ sl,h'.get? b=some {o with slots:=sl}) (free:∀ b o,b∉ch->s.heap.get? b=some o->H b=none->H' b=none)
  (there:∀ b o,b∉ch->s.heap.get? b=some o->∃ o',h'.get? b=some o')
  (tups:∀ b xs,H b=some (.tup xs)->H' b=some (.tup xs)) (frzs:∀ b o u,H b=some (.frz o u)->H' b=some (.frz o u)) (tbls:∀ b ps,H b=some (.tbl ps)->∃ more,H' b=some (.tbl (ps++more)))
  (ns:∀ m,s.heap.Ns X.env.locals m->h'.Ns X.env.locals m) (hok:HOk X.prog X.w H' h') (hg:AllBare g') :
  Inv X pins σ H' {s with heap:=h',gens:=g',drawn:=d',toks:=t'}:=by
 have neL:∀ b o,X.s₀.heap.get? b=some o->b≠X.env.locals:=fun b o e=>Z3 (Zl (Zp e) I.ok.above)
 have neC:∀ b o,X.s₀.heap.get? b=some o->b∉X.ex->b∉ch:=fun b o e hx hb=>by
  rcases (hch b hb).1 with z | z
  ·exact hx z
  ·exact absurd (Zl (Zp e) z) (Nat.lt_irrefl _)
 have cellK:∀ x c,X.env.cells.lookup x=some c->∀ v,s.heap.IsCell c v->h'.IsCell c v:=fun x c e v hz=>xa hz fun o ho hd=>by
  have nch:c∉ch:=fun z=>(hch c z).2.2.1 x c e rfl
  by_cases hc:c∈X.fs
  ·refine xb (slot c o (I.cne x c e) hc nch ho (I.freeC x c e)) fun sl q=>?_;exact⟨_,q,hd⟩
  ·exact⟨o,keep c o (I.cne x c e) hc nch ho (I.freeC x c e),hd⟩
 refine⟨I.ok,I.os,hg,⟨fun b o e n hb hx=>?_,fun b o e n hb hx=>?_,fun b o e n hx=>?_,fun b o e hx=>?_,fun b xs e=>tups b xs (I.base.tups b xs e),fun b o xs e=>frzs b o xs (I.base.frzs b o xs e),fun b ps e=>?_⟩,?_,fun x c e=>?_,?_,fun x c e=>?_,fun p hp=>?_,hok,I.len⟩
 ·exact keep b o (neL b o e) hb (neC b o e hx) (I.base.keep b o e n hb hx) (I.base.free b o e n hx)
 ·refine xb (I.base.slot b o e n hb hx) fun sl e1=>?_;refine xb (slot b _ (neL b o e) hb (neC b o e hx) e1 (I.base.free b o e n hx)) fun sl' e2=>?_;exact⟨sl',e2⟩
 ·refine xb (I.base.there b o e hx) fun o' e1=>?_;exact free b o' (neC b o e hx) e1 (I.base.free b o e n hx)
 ·refine xb (I.base.there b o e hx) fun o' e1=>?_;exact there b o' (neC b o e hx) e1
 ·refine xb (I.base.tbls b ps e) fun m1 e1=>?_;refine xb (tbls b _ e1) fun m2 e2=>?_;exact⟨m1++m2,by rw [e2,G1]⟩
 ·refine xa I.loc fun m hn hl=>?_;refine⟨m,ns m hn,fun i x v e1 e2 e3=>?_⟩
  refine xa (hl i x v e1 e2 e3) fun u r l=>?_;refine⟨u,r,?_⟩
  rcases l with l | ⟨k,c,e,z⟩
  ·exact .inl l
  ·exact .inr ⟨k,c,e,cellK x c e _ z⟩
 ·refine xb (I.cell x c e) fun v z=>?_;exact⟨v,cellK x c e v z⟩
 ·obtain⟨m,⟨o,_,_,ho,_⟩,_⟩:=I.loc
  exact free _ o (fun z=>(hch _ z).2.1 rfl) ho I.free
 ·refine xj (I.cell x c e) fun v o ho hd=>?_;exact free c o (fun z=>(hch c z).2.2.1 x c e rfl) ho (I.freeC x c e)
 ·refine xv (I.pin p hp) fun e n ne nf d=>?_;have nch:p.1∉ch:=fun z=>(hch p.1 z).2.2.2 p hp rfl
  exact⟨keep p.1 p.2 ne nf nch e n,free p.1 p.2 nch e n,ne,nf,d⟩
theorem Inv.un {t':Nat} (I:Inv X pins σ H s) (u:Un X.fs [] H H' s.heap h') (hok:HOk X.prog X.w H' h'):Inv X pins σ H' {s with heap:=h',toks:=t'}:=by
 obtain⟨m,⟨o,es,ep,ho,r⟩,_⟩:=id I.loc
 refine xb (u.any ho I.free (by simp)) fun sl hL=>?_;exact I.step (g':=s.gens) (d':=s.drawn) (ch:=[]) (fun _ z=>nomatch z) (fun b o _ hb _ e n=>u.keep b o e n hb (by simp)) (fun b o _ hb _ e n=>u.slot b o e n hb (by simp)) (fun b o _ e n=>u.free b o e n (by simp)) (fun b o _ e=>u.there b o e (by simp)) u.tups u.frzs u.tbls (fun m' hm=>by
  refine xn hm fun o' es' ep' ho' r'=>?_;clear hm
  rw [ho] at ho';cases ho';exact⟨_,es',ep',hL,r'⟩) hok I.bare
theorem Inv.call {g':Array GenState} {t':Nat} {d':Drawn} {ch:List Addr} (I:Inv X pins σ H s) (u:Un (frs X.stack) ch H H' s.heap h') (hok:HOk X.prog X.w H' h') (hg:AllBare g')
  (hch:∀ b∈ch,(b∈X.ex\/X.s₀.heap.objs.size<=b)/\b≠X.env.locals/\(∀ x c,X.env.cells.lookup x=some c->c≠b)/\∀ p∈X.pn++pins,p.1≠b) :
  Inv X pins σ H' {s with heap:=h',gens:=g',drawn:=d',toks:=t'}:=by
 obtain⟨m,⟨o,es,ep,ho,r⟩,_⟩:=id I.loc
 refine xb (u.any ho I.free fun z=>(hch _ z).2.1 rfl) fun sl hL=>?_;exact I.step (ch:=ch) hch (fun b o hL hb hc e n=>u.keep b o e n (fun z=>(Zf.mp (I.stkSub b z)).elim hL hb) hc) (fun b o _ _ hc e n=>u.any e n hc) (fun b o hc e n=>u.free b o e n hc) (fun b o hc e=>u.there b o e hc) u.tups u.frzs u.tbls (fun m' hm=>by
  refine xn hm fun o' es' ep' ho' r'=>?_;clear hm
  rw [ho] at ho';cases ho';exact⟨_,es',ep',hL,r'⟩) hok hg
theorem Inv.turned {t':Nat} {it:Addr} (I:Inv X pins σ H s) (k:∀ b o,b≠it->s.heap.get? b=some o->h'.get? b=some o) (hn:H it=none) (hL:it≠X.env.locals)
  (h1:it∈X.ex\/X.s₀.heap.objs.size<=it) (h2:∀ x c,X.env.cells.lookup x=some c->c≠it) (h3:∀ p∈X.pn++pins,p.1≠it):Inv X pins σ H {s with heap:=h',toks:=t'}:=by
 have nit:∀ b u,H b=some u->b≠it:=fun b u e z=>by rw [z,hn] at e;cases e
 refine I.step (g':=s.gens) (d':=s.drawn) (ch:=[it]) (fun b hb=>?_) (fun b o _ _ hc e _=>k b o (fun z=>hc (by simp [z])) e) (fun b o _ _ hc e _=>⟨o.slots,k b o (fun z=>hc (by simp [z])) e⟩) (fun _ _ _ _ n=>n)
  (fun b o hc e=>⟨o,k b o (fun z=>hc (by simp [z])) e⟩) (fun _ _ e=>e) (fun _ _ _ e=>e) (fun b ps e=>⟨#[],by rw [e];simp⟩) (fun m hm=>?_) (fun b u e=>?_) I.bare
 ·have e:b=it:=by simpa using hb
  subst e;exact⟨h1,hL,h2,h3⟩
 ·refine xn hm fun o es ep ho r=>?_;clear hm
  exact⟨o,es,ep,k _ o (Wk hL) ho,r⟩
 ·refine (I.hok b u e).stay (fun c v hc q=>k c v ?_ q) (fun _ q=>q) fun _ _ q=>q
  rcases hc with z | z
  ·rw [z];exact nit b u e
  ·exact nit c _ z
theorem Inv.tok (I:Inv X pins σ H s) (t:Nat):Inv X pins σ H {s with toks:=t}:=I.un (h':=s.heap) (t':=t) Un.refl I.hok
theorem Inv.kept {t':Nat} (I:Inv X pins σ H s) (k:∀ b u,s.heap.get? b=some u->h'.get? b=some u):Inv X pins σ H {s with heap:=h',toks:=t'}:=I.un (Un.kept k) (I.hok.kept k)
theorem Inv.laid {a:Addr} {o:HO} {t':Nat} (I:Inv X pins σ H s) (k:∀ b u,s.heap.get? b=some u->h'.get? b=some u) (hp:s.heap.objs.size<=a) (new:ObjOk X.prog X.w (upd H a o) h' a o) :
  Inv X pins σ (upd H a o) {s with heap:=h',toks:=t'}:=I.un (Un.laid k hp (I.hok.fresh hp)) (I.hok.laid k hp new)
theorem Inv.write {x e:Addr} {o:HO} {t':Nat} (I:Inv X pins σ H s) (mu:Mut (H x)) (he:e=x\/H e=some (.own x)) (k:∀ b u,b≠e->s.heap.get? b=some u->h'.get? b=some u) (heo:∃ u,h'.get? e=some u)
  (new:ObjOk X.prog X.w (upd H x o) h' x o):Inv X pins σ (upd H x o) {s with heap:=h',toks:=t'}:=I.un (Un.write mu he k heo) (I.hok.write mu he k heo new)
theorem Inv.pins_of {pins':List (Addr×Obj)} (I:Inv X pins σ H s) (h:∀ p∈pins',s.heap.get? p.1=some p.2/\H p.1=none/\p.1≠X.env.locals/\p.1∉X.fs/\∀ v,p.2.data ≠ .cell v):Inv X pins' σ H s:=
 ⟨I.ok,I.os,I.bare,I.base,I.loc,I.cell,I.free,I.freeC,fun p hp=>(Y6.mp hp).elim (fun z=>I.pin p (W1 _ z)) (h p),I.hok,I.len⟩
theorem zro {N:List Str} (hN:N.Nodup) {i j:Nat} {x:Str} (a:N[i]? = some x) (b:N[j]? = some x):i=j:=by
 refine xb (Zn.mp a) fun h1 e1=>?_;refine xb (Zn.mp b) fun h2 e2=>?_;exact (Ko hN).mp (e1.trans e2.symm)
theorem zmt {M:Model} {A:Around} {E:Value->Shared->Prop} {i:Nat} {x:Str} {v:V} {u:Value} {Q:Unit->Shared->Prop} (I:Inv X pins σ H s) (hN:X.N.Nodup) (hi:X.N[i]? = some x) (hx:Loc X.env.scope x) (r:RelV v u)
  (h:∀ s',Inv X pins (σ.set i (some v)) H s'->(∃ a,Heap.SameBut a s.heap s'.heap/\(a=X.env.locals\/X.env.cells.lookup x=some a))->Q () s') (hf:X.fn x=true\/X.env.scope.names.lookup x=some .local:=by first | exact .inl rfl | exact .inr rfl | assumption):wpAny M A (storeName X.env x u) Q E s:=by
 refine xa (id I.loc) fun m hn hl=>?_;have hcls:(X.env.scope.kind == .class || (X.env.scope.kind == .module && X.env.locals != X.env.globals))=false:=by rw [I.ok.kind];rfl
 have hiσ:i<σ.length:=by rw [I.len];exact (Zn.mp hi).1
 have cne:=I.cne;have tracked:∀ {a:Addr} {h':Heap},(∃ o,s.heap.get? a=some o/\H a=none)->Heap.SameBut a s.heap h'->HOk X.prog X.w H h':=fun {a h'} ha hs b ob e=>by
  refine xa ha fun _ _ hfree=>?_;clear ha
  refine (I.hok b ob e).stay (fun c w' hc q=>(hs.2 c ?_).trans q) (fun _ q=>q) fun _ _ q=>q
  rintro rfl
  rcases hc with rfl | hc
  ·rw [hfree] at e;cases e
  ·rw [hfree] at hc;cases hc
 rcases hx with hk | hk
 ·refine wpAny_storeName_local hk hn (fun h' hn' hs=>?_) hcls;refine xn (id hn) fun oL _ _ hoL _=>?_;refine h _ ⟨I.ok,I.os,I.bare,⟨fun b o e n hb hx=>?_,fun b o e n hb hx=>?_,I.base.free,fun b o e hx=>?_,I.base.tups,I.base.frzs,I.base.tbls⟩,⟨_,hn',fun j y v' e1 e2 e3=>?_⟩,fun y c e=>?_,I.free,I.freeC,fun p hp=>?_,tracked ⟨oL,hoL,I.free⟩ hs,by simpa using I.len⟩ ⟨_,hs,.inl rfl⟩
  ·exact (hs.2 b (Z3 (Zl (Zp e) I.ok.above))).trans (I.base.keep b o e n hb hx)
  ·refine xb (I.base.slot b o e n hb hx) fun sl e1=>?_;exact⟨sl,(hs.2 b (Z3 (Zl (Zp e) I.ok.above))).trans e1⟩
  ·refine xb (I.base.there b o e hx) fun o' e1=>?_;exact⟨o',(hs.2 b (Z3 (Zl (Zp e) I.ok.above))).trans e1⟩
  ·by_cases hj:j=i
   ·subst hj;rw [hi] at e1;cases e1;rw [Y9 hiσ] at e2;cases e2;exact⟨u,r,.inl ⟨hk,by simp⟩⟩
   ·rw [Yp (Wk hj)] at e2;refine xa (hl j y v' e1 e2 e3) fun u' r' q=>?_;refine⟨u',r',?_⟩
    rcases q with⟨k,e⟩ | ⟨k,c,e,z⟩
    ·refine .inl ⟨k,?_⟩;have:y≠x:=fun e=>hj (zro hN e1 (e ▸ hi))
     simp [this,e]
    ·exact .inr ⟨k,c,e,z.sameBut hs (cne y c e)⟩
  ·refine xb (I.cell y c e) fun w' z=>?_;exact⟨w',z.sameBut hs (cne y c e)⟩
  ·refine xv (I.pin p hp) fun e n ne nf d=>?_;exact⟨(hs.2 p.1 ne).trans e,n,ne,nf,d⟩
 ·have hfn:X.fn x=true:=by
   rcases hf with z | z
   ·exact z
   ·rw [z] at hk;cases hk
  refine xb (I.ok.has x (.inl hk)) fun c hc=>?_;refine xb (I.cell x c hc) fun w' z=>?_;refine wpAny_storeName_cell I.ok.kind hk hc z (fun h' hc' hs=>?_);refine xa (id z) fun oc hoc hocd=>?_;refine h {s with heap:=h'} ⟨I.ok,I.os,I.bare,⟨fun b o e n hb hx=>?_,fun b o e n hb hx=>?_,I.base.free,fun b o e hx=>?_,I.base.tups,I.base.frzs,I.base.tbls⟩,⟨m,hn.sameBut hs (Wk (cne x c hc)),fun j y v' e1 e2 e3=>?_⟩,fun y c' e=>?_,I.free,I.freeC,fun p hp=>?_,tracked ⟨oc,hoc,I.freeC x c hc⟩ hs,by simpa using I.len⟩ ⟨c,hs,.inr hc⟩
  ·exact (hs.2 b (Z3 (Zl (Zp e) (I.ok.cab x c hfn hc)))).trans (I.base.keep b o e n hb hx)
  ·refine xb (I.base.slot b o e n hb hx) fun sl e1=>?_;exact⟨sl,(hs.2 b (Z3 (Zl (Zp e) (I.ok.cab x c hfn hc)))).trans e1⟩
  ·refine xb (I.base.there b o e hx) fun o' e1=>?_;exact⟨o',(hs.2 b (Z3 (Zl (Zp e) (I.ok.cab x c hfn hc)))).trans e1⟩
  ·by_cases hj:j=i
   ·subst hj;rw [hi] at e1;cases e1;rw [Y9 hiσ] at e2;cases e2;exact⟨u,r,.inr ⟨.inl hk,c,hc,hc'⟩⟩
   ·rw [Yp (Wk hj)] at e2;refine xa (hl j y v' e1 e2 e3) fun u' r' q=>?_;refine⟨u',r',?_⟩
    rcases q with q | ⟨k,c',e,z'⟩
    ·exact .inl q
    ·refine .inr ⟨k,c',e,z'.sameBut hs ?_⟩;rintro rfl
     exact hj (zro hN e1 (I.ok.inj _ _ _ e hc ▸ hi))
  ·by_cases hcc:c'=c
   ·subst hcc;exact⟨_,hc'⟩
   ·refine xb (I.cell y c' e) fun w2 z2=>?_;exact⟨w2,z2.sameBut hs hcc⟩
  ·refine xv (I.pin p hp) fun e n ne nf d=>?_;refine⟨(hs.2 p.1 ?_).trans e,n,ne,nf,d⟩
   intro q;rw [q,hoc] at e;have q':oc=p.2:=Ye e;exact d w' (by rw [<- q'];exact hocd)
theorem zgy {M:Model} {A:Around} {E:Value->Shared->Prop} {i:Nat} {x:Str} {v:V} {u:Value} {Q:Unit->Shared->Prop} (I:Inv X pins σ H s) (hN:X.N.Nodup) (hi:X.N[i]? = some x) (hx:Loc X.env.scope x) (r:RelV v u)
  (h:∀ s',Inv X pins (σ.set i (some v)) H s'->Q () s') (hf:X.fn x=true\/X.env.scope.names.lookup x=some .local:=by first | exact .inl rfl | exact .inr rfl | assumption):wpAny M A (storeName X.env x u) Q E s:=
 zmt I hN hi hx r (fun s' I' _=>h s' I') hf
theorem Inv.call' {s':Shared} {ch:List Addr} (I:Inv X pins σ H s) (ho:s'.os=s.os) (u:Un (frs X.stack) ch H H' s.heap s'.heap) (hok:HOk X.prog X.w H' s'.heap) (hg:AllBare s'.gens)
  (hch:∀ b∈ch,(b∈X.ex\/X.s₀.heap.objs.size<=b)/\b≠X.env.locals/\(∀ x c,X.env.cells.lookup x=some c->c≠b)/\∀ p∈X.pn++pins,p.1≠b):Inv X pins σ H' s':=by
 obtain⟨h',g',d',t',o'⟩:=s'
 have e:o'=s.os:=ho;subst e;exact I.call (g':=g') (t':=t') (d':=d') u hok hg hch
end
abbrev XK:=Value->Option Addr->Hp->Prop
abbrev St:=List (Option V)
abbrev VK:=V->Hp->Prop
abbrev TE:=St->Hp->VK->Prop
abbrev TT:=St->Hp->(Bool->Hp->Prop)->Prop
abbrev TA:=St->Hp->(List V->Hp->Prop)->Prop
structure Ends where
 nx:St->Hp->Prop
 rt:VK
 bk:St->Hp->Prop:=fun _ _=>False
 ct:St->Hp->Prop:=fun _ _=>False
abbrev TS:=Ends->St->Hp->Prop
def EP (X:Cx) (pins:List (Addr×Obj)) (σ:St) (Q:VK) (u:Value) (s':Shared):Prop:=∃ v H',Inv X pins σ H' s'/\RelV v u/\Q v H'
def TP (X:Cx) (pins:List (Addr×Obj)) (σ:St) (Q:Bool->Hp->Prop) (b:Bool) (s':Shared):Prop:=∃ H',Inv X pins σ H' s'/\Q b H'
def AP (X:Cx) (pins:List (Addr×Obj)) (σ:St) (Q:List V->Hp->Prop) (us:List Value) (s':Shared):Prop:=∃ vs H',Inv X pins σ H' s'/\Vals vs us/\Q vs H'
def SP (X:Cx) (pins:List (Addr×Obj)) (D:Ends) (f:Flow) (s':Shared):Prop:=
 match f with
 | .next=>∃ σ' H',Inv X pins σ' H' s'/\D.nx σ' H'
 | .brk=>∃ σ' H',Inv X pins σ' H' s'/\D.bk σ' H'
 | .cont=>∃ σ' H',Inv X pins σ' H' s'/\D.ct σ' H'
 | .ret u=>∃ v σ' H',Inv X pins σ' H' s'/\RelV v u/\D.rt v H'
def PE (X:Cx) (e:Expr) (t:TE):Prop:=
 ∀ (pins:List (Addr×Obj)) (s:Shared) (σ:St) (H:Hp) (Q:VK),Inv X pins σ H s->t σ H Q->wpAny (model X.prog X.w) X.A (eval e X.env) (EP X pins σ Q) X.xe s
def PT (X:Cx) (e:Expr) (t:TT):Prop:=
 ∀ (pins:List (Addr×Obj)) (s:Shared) (σ:St) (H:Hp) (Q:Bool->Hp->Prop),Inv X pins σ H s->t σ H Q->wpAny (model X.prog X.w) X.A (isTrue e X.env (eval e X.env)) (TP X pins σ Q) X.xe s
def PW (X:Cx) (e:Expr) (t:TT):Prop:=
 ∀ (whole:Sem Value) (pins:List (Addr×Obj)) (s:Shared) (σ:St) (H:Hp) (Q:Bool->Hp->Prop),Inv X pins σ H s->t σ H Q->wpAny (model X.prog X.w) X.A (isTrue e X.env whole) (TP X pins σ Q) X.xe s
theorem PW.pt {X:Cx} {e:Expr} {t:TT} (h:PW X e t):PT X e t:=h _
def PA (X:Cx) (es:List Expr) (t:TA):Prop:=
 ∀ (pos:Pos) (pins:List (Addr×Obj)) (s:Shared) (σ:St) (H:Hp) (Q:List V->Hp->Prop),Inv X pins σ H s->t σ H Q->wpAny (model X.prog X.w) X.A (spliced (backTo pos (starEach es X.env))) (AP X pins σ Q) X.xe s
def PS (X:Cx) (st:Stmt) (t:TS):Prop:=
 ∀ (pins:List (Addr×Obj)) (s:Shared) (σ:St) (H:Hp) (D:Ends),Inv X pins σ H s->t D σ H->wpAny (model X.prog X.w) X.A (exec st X.env) (SP X pins D) X.xe s
def PSs (X:Cx) (st:List Stmt) (t:TS):Prop:=
 ∀ (pins:List (Addr×Obj)) (s:Shared) (σ:St) (H:Hp) (D:Ends),Inv X pins σ H s->t D σ H->wpAny (model X.prog X.w) X.A (execs st X.env) (SP X pins D) X.xe s
theorem thn {α:Type} {t:Sem α} {Q Q':α->Shared->Prop} {M:Model} {A:Around} {E:Value->Shared->Prop} {s:Shared} (h:wpAny M A t Q E s) (hQ:∀ a s,Q a s->Q' a s):wpAny M A t Q' E s:=K7 h hQ fun _ _ x=>x
end L2
namespace L2
open PySem PySem.Spec PyProof.Rows
section
variable {X:Cx}
def tVar (i:Nat):TE:=fun σ H Q=>∃ v,σ[i]? = some (some v)/\Q v H
def tC (v:V):TE:=fun _ H Q=>Q v H
theorem zgk {i:Nat} {x:Str} {pos:Pos} (hN:X.N[i]? = some x) (hv:Vis X.env.scope x) (hd:(x == ("__debug__" : Str))=false:=by decide) (hcd:(x == ("__classdict__" : Str))=false:=by decide):PE X (.Name x pos) (tVar i):=by
 intro pins s σ H Q I h;refine xa h fun v e h=>?_;refine xa I.loc fun m hn hl=>?_;refine xa (hl i x v hN e hv) fun u r l=>?_;have fin:EP X pins σ Q u s:=⟨v,H,I,r,h⟩;rcases l with⟨hk,hm⟩ | ⟨hk,c,hc,hcell⟩
 ·exact wpAny_Name (wpAny_loadName_local I.ok.kind hk hn hm fin) hd
 ·rcases hk with hk | hk
  ·exact wpAny_Name (wpAny_loadName_cell I.ok.kind hk hc hcell fin) hd
  ·exact wpAny_Name (wpAny_loadName_free I.ok.kind hk hc hcell fin hcd) hd
theorem pe_int {i j pos}:PE X (.Constant (.int i) j pos) (tC (.int i)):=fun _ _ _ H _ I h=>wpAny_Constant_int ⟨.int i,H,I.tok _,⟨_,rfl⟩,h⟩
theorem pe_bl {b j pos}:PE X (.Constant (.bool b) j pos) (tC (.bl b)):=fun _ _ _ H _ I h=>Constant_bool ⟨.bl b,H,I,rfl,h⟩
theorem pe_non {j pos}:PE X (.Constant .none j pos) (tC .non):=fun _ _ _ H _ I h=>Constant_none ⟨.non,H,I,rfl,h⟩
def Gl (X:Cx) (x:Str):Prop:=X.env.kindOf x=some .globalImplicit
theorem yjq {E:Value->Shared->Prop} {pins:List (Addr×Obj)} {s:Shared} {σ:St} {H:Hp} {x:Str} {u:Value} {pos:Pos} {Q:Value->Shared->Prop} (I:Inv X pins σ H s) (hg:Gl X x) (hm:X.mg x=some u) (h:Q u s)
  (hd:(x == ("__debug__" : Str))=false:=by decide):wpAny (model X.prog X.w) X.A (eval (.Name x pos) X.env) Q E s:=
 Vr I.ok.kind hg (Calls.loadGlobal_global (by rw [I.ok.glob];exact I.mod.glob.keeps I.bk) hm h) hd
theorem zfe {E:Value->Shared->Prop} {pins:List (Addr×Obj)} {s:Shared} {σ:St} {H:Hp} {x:Str} {u:Value} {pos:Pos} {Q:Value->Shared->Prop} (I:Inv X pins σ H s) (hg:Gl X x) (hm:X.mg x=none) (hv:bootBuiltins x=some u) (h:Q u s)
  (hn:x ≠ "__name__" := by decide) (hd:(x == ("__debug__" : Str))=false:=by decide):wpAny (model X.prog X.w) X.A (eval (.Name x pos) X.env) Q E s:=by
 refine xa I.mod.blt fun mb h1 h2=>?_;exact Vr I.ok.kind hg (Calls.loadGlobal_builtin (by rw [I.ok.glob];exact I.mod.glob.keeps I.bk) hm (by rw [I.ok.blt];exact h1.keeps I.bk) ((h2 x hn).trans hv) h) hd
theorem yit {x:Str} {v:V} {u:Value} {pos:Pos} (hg:Gl X x) (hm:X.mg x=none) (hv:bootBuiltins x=some u) (r:RelV v u) (hn:x ≠ "__name__" := by decide) (hd:(x == ("__debug__" : Str))=false:=by decide):PE X (.Name x pos) (tC v):=
 fun _ _ _ H _ I h=>zfe I hg hm hv ⟨v,H,I,r,h⟩ hn hd
variable {a b:Expr} {ta tb:TE} {pos:Pos}
def tB (t:TE):TT:=fun σ H Q=>t σ H fun x H1=>∃ c,x=.bl c/\Q c H1
theorem pt_val {e:Expr} {t:TE} (h:PE X e t) (he:∀ whole,isTrue e X.env whole=(do let v <- whole;standAt e.pos;holding [v] (truthy v)):=by intro _;rfl):PT X e (tB t):=by
 intro pins s σ H Q I hw;refine isTrue_plain (thn (h pins s σ H _ I hw) fun v s1 hz=>xc hz fun x H1 I1 r1 q1=>?_) (he _);refine xa q1 fun d qz1 q=>?_;clear q1;subst qz1
 cases r1;exact Kq ⟨H1,I1,q⟩
variable {tA tB':TT} {rest:List Expr}
def tAnd (t u:TT):TT:=fun σ H Q=>t σ H fun c H1=>if c=true then u σ H1 Q else Q false H1
def tOr (t u:TT):TT:=fun σ H Q=>t σ H fun c H1=>if c=true then Q true H1 else u σ H1 Q
def tNot (t:TT):TT:=fun σ H Q=>t σ H fun c H1=>Q (!c) H1
theorem yih (ha:PT X a tA):PW X (.BoolOp .And [a] pos) tA:=by
 intro wh pins s σ H Q I h;refine isTrue_and (thn (ha pins s σ H Q I h) fun c s1 e=>?_);cases c with
 | true=>exact isTrue_and_nil e
 | false=>exact e
theorem pw_or1 (ha:PT X a tA):PW X (.BoolOp .Or [a] pos) tA:=by
 intro wh pins s σ H Q I h;refine isTrue_or (thn (ha pins s σ H Q I h) fun c s1 e=>?_);cases c with
 | false=>exact isTrue_or_nil e
 | true=>exact e
theorem yfi (ha:PT X a tA) (hb:PW X (.BoolOp .And (b::rest) pos) tB'):PW X (.BoolOp .And (a::b::rest) pos) (tAnd tA tB'):=by
 intro wh pins s σ H Q I h;refine isTrue_and (thn (ha pins s σ H _ I h) fun c s1 hz=>xa hz fun H1 I1 q1=>?_);cases c with
 | true=>exact hb wh pins s1 σ H1 Q I1 q1
 | false=>exact⟨H1,I1,q1⟩
theorem pw_or (ha:PT X a tA) (hb:PW X (.BoolOp .Or (b::rest) pos) tB'):PW X (.BoolOp .Or (a::b::rest) pos) (tOr tA tB'):=by
 intro wh pins s σ H Q I h;refine isTrue_or (thn (ha pins s σ H _ I h) fun c s1 hz=>xa hz fun H1 I1 q1=>?_);cases c with
 | true=>exact⟨H1,I1,q1⟩
 | false=>exact hb wh pins s1 σ H1 Q I1 q1
theorem pt_not (ha:PT X a tA):PT X (.UnaryOp .Not a pos) (tNot tA):=by
 intro pins s σ H Q I h;exact isTrue_not (ha pins s σ H (fun c H1=>Q (!c) H1) I h)
def tAndV (ta tb:TE):TE:=fun σ H Q=>ta σ H fun x H1=>∃ c,x=.bl c/\if c=true then tb σ H1 Q else Q (.bl false) H1
def tOrV (ta tb:TE):TE:=fun σ H Q=>ta σ H fun x H1=>∃ c,x=.bl c/\if c=true then Q (.bl true) H1 else tb σ H1 Q
def tNotV (ta:TE):TE:=fun σ H Q=>ta σ H fun x H1=>∃ c,x=.bl c/\Q (.bl (!c)) H1
theorem pe_one {op} {t:TE} (h:PE X a t):PE X (.BoolOp op [a] pos) t:=fun pins s σ H Q I hw=>BoolOp_one (h pins s σ H Q I hw)
theorem yfo (ha:PE X a ta) (hb:PE X (.BoolOp .And (b::rest) pos) tb):PE X (.BoolOp .And (a::b::rest) pos) (tAndV ta tb):=by
 intro pins s σ H Q I h;refine BoolOp_and (thn (ha pins s σ H _ I h) fun v s1 ⟨x,H1,I1,r1,q1⟩=>?_);obtain⟨c,rfl,q1⟩:=q1
 cases r1;refine Kq ?_;cases c with
 | true=>exact hb pins s1 σ H1 Q I1 q1
 | false=>exact⟨.bl false,H1,I1,rfl,q1⟩
theorem pe_or (ha:PE X a ta) (hb:PE X (.BoolOp .Or (b::rest) pos) tb):PE X (.BoolOp .Or (a::b::rest) pos) (tOrV ta tb):=by
 intro pins s σ H Q I h;refine BoolOp_or (thn (ha pins s σ H _ I h) fun v s1 ⟨x,H1,I1,r1,q1⟩=>?_);obtain⟨c,rfl,q1⟩:=q1
 cases r1;refine Kq ?_;cases c with
 | false=>exact hb pins s1 σ H1 Q I1 q1
 | true=>exact⟨.bl true,H1,I1,rfl,q1⟩
theorem pe_not (ha:PE X a ta):PE X (.UnaryOp .Not a pos) (tNotV ta):=by
 intro pins s σ H Q I h;refine UnaryOp_ (thn (ha pins s σ H _ I h) fun v s1 ⟨x,H1,I1,r1,q1⟩=>?_);obtain⟨c,rfl,q1⟩:=q1
 cases r1;exact not_of (Kq ⟨.bl (!c),H1,I1,rfl,q1⟩)
end
end L2
namespace L2
open PySem PySem.Spec PyProof.Rows
def SqL (K:PySem.W.Frag) (H:Hp) (a:Addr) (xs:List V):Prop:=
 Rd H a (.lst xs) \/
  ∃ (o:Obj) (its:Array Value) (n:Nat),K.lookup a=some o/\o.cls=.type "list" /\ o.dict=none/\o.data=.seq its n/\its.size<=sizeLine/\Vals xs its.toList
def SqT (K:PySem.W.Frag) (H:Hp) (a:Addr) (xs:List V):Prop:=
 Rd H a (.tup xs) \/
  ∃ (o:Obj) (its:Array Value) (n:Nat),K.lookup a=some o/\o.cls=.type "tuple" /\ o.data=.seq its n/\its.size<=sizeLine/\Vals xs its.toList
def absV:Value->Option V
 | .none=>some .non
 | .bool b=>some (.bl b)
 | .int i _=>some (.int i)
 | .str x _=>some (.str x)
 | .bytes b _=>some (.byt b)
 | .float b _=>some (.flt b)
 | .ref a=>some (.ref a)
 | .type n=>some (.ty n)
 | _=>none
theorem RelV.abs {x:V} {u:Value} (r:RelV x u):absV u=some x:=by
 cases x with
 | non=>cases r;rfl
 | bl _=>cases r;rfl
 | int _=>refine xb r fun t qz1=>?_;clear r;subst qz1;rfl
 | str _=>refine xb r fun t qz1=>?_;clear r;subst qz1;rfl
 | byt _=>refine xb r fun t qz1=>?_;clear r;subst qz1;rfl
 | flt _=>refine xb r fun t qz1=>?_;clear r;subst qz1;rfl
 | ref _=>cases r;rfl
 | ty _=>cases r;rfl
theorem RelV.inj {x y:V} {u:Value} (r:RelV x u) (q:RelV y u):x=y:=Ye (r.abs.symm.trans q.abs)
theorem Vals.inj:∀ {xs ys:List V} {us:List Value},Vals xs us->Vals ys us->xs=ys:=fun {xs ys us} h=>by
 induction h generalizing ys with
 | nil=>intro k;cases k;rfl
 | cons r t ih=>
  intro k;cases k with
  | cons r2 t2=>rw [r.inj r2,ih t2]
section
variable {X:Cx} {pins:List (Addr×Obj)} {σ:St} {H:Hp} {s:Shared} {a:Addr} {xs ys:List V}
theorem SqL.of {K:PySem.W.Frag} (h:H a=some (.lst xs)):SqL K H a xs:=.inl (.inl h)
theorem SqT.of {K:PySem.W.Frag} (h:H a=some (.tup xs)):SqT K H a xs:=.inl (.inl h)
theorem Inv.list (I:Inv X pins σ H s) (h:SqL X.K H a xs):∃ its:List Value,Vals xs its/\PlainL s.heap a its.toArray/\xs.length<=sizeLine:=by
 rcases h with h | ⟨o,its,n,hk,hc,hd,hs,hz,r⟩
 ·refine xx (h.ok I.hok) fun z its n r e=>?_;exact⟨its,r,⟨_,n,e,rfl,rfl,rfl⟩,z⟩
 ·refine⟨its.toList,r,⟨o,n,I.kIn a o hk,hc,hd,by simpa using hs⟩,?_⟩
  have e:=r.length;simp only [Z6] at e;omega
theorem Inv.tuple (I:Inv X pins σ H s) (h:SqT X.K H a xs):∃ its:List Value,Vals xs its/\IsTup s.heap a its.toArray/\xs.length<=sizeLine:=by
 rcases h with h | ⟨o,its,n,hk,hc,hs,hz,r⟩
 ·refine xA (h.ok I.hok) fun z its r p=>?_;exact⟨its,r,p,z⟩
 ·refine⟨its.toList,r,⟨o,I.kIn a o hk,hc,n,by simpa using hs⟩,?_⟩
  have e:=r.length;simp only [Z6] at e;omega
theorem Inv.list_inj (I:Inv X pins σ H s) (h:SqL X.K H a xs) (h':SqL X.K H a ys):xs=ys:=by
 obtain⟨its,r,⟨o,n,e,_,_,d⟩,_⟩:=I.list h
 obtain⟨its',r',⟨o',n',e',_,_,d'⟩,_⟩:=I.list h'
 rw [e] at e';cases e';rw [d] at d';injection d' with d1 _
 have:its=its':=by simpa using congrArg Array.toList d1
 subst this;exact r.inj r'
theorem Inv.tuple_inj (I:Inv X pins σ H s) (h:SqT X.K H a xs) (h':SqT X.K H a ys):xs=ys:=by
 obtain⟨its,r,⟨o,e,_,n,d⟩,_⟩:=I.tuple h
 obtain⟨its',r',⟨o',e',_,n',d'⟩,_⟩:=I.tuple h'
 rw [e] at e';cases e';rw [d] at d';injection d' with d1 _
 have:its=its':=by simpa using congrArg Array.toList d1
 subst this;exact r.inj r'
end
abbrev Cx.wish (X:Cx) (E:Value->Shared->Prop):Cx:={X with xe:=E}
abbrev Cx.nox (X:Cx):Cx:=X.wish fun _ _=>False
theorem Cx.Ok.wish {X:Cx} (ok:X.Ok) (E:Value->Shared->Prop):(X.wish E).Ok:=
 ⟨ok.mod,ok.kind,ok.glob,ok.blt,ok.above,ok.inj,ok.has,ok.cab,ok.hd,ok.frames,ok.stk,ok.exf,ok.bs,ok.bsz,ok.noex,ok.exfs,ok.funs,ok.frf⟩
theorem Cx.Ok.unwish {X:Cx} {E:Value->Shared->Prop} (ok:(X.wish E).Ok):X.Ok:=
 ⟨ok.mod,ok.kind,ok.glob,ok.blt,ok.above,ok.inj,ok.has,ok.cab,ok.hd,ok.frames,ok.stk,ok.exf,ok.bs,ok.bsz,ok.noex,ok.exfs,ok.funs,ok.frf⟩
section
variable {X:Cx} {pins:List (Addr×Obj)} {σ:St} {H:Hp} {s:Shared} {E:Value->Shared->Prop}
theorem Inv.wish (I:Inv X pins σ H s) (E:Value->Shared->Prop):Inv (X.wish E) pins σ H s:=⟨I.ok.wish E,I.os,I.bare,I.base,I.loc,I.cell,I.free,I.freeC,I.pin,I.hok,I.len⟩
theorem Inv.unwish (I:Inv (X.wish E) pins σ H s):Inv X pins σ H s:=⟨I.ok.unwish,I.os,I.bare,I.base,I.loc,I.cell,I.free,I.freeC,I.pin,I.hok,I.len⟩
theorem SP.unwish {D:Ends} {f:Flow} {s':Shared} (h:SP (X.wish E) pins D f s'):SP X pins D f s':=by
 cases f with
 | next=>refine xj h fun σ' H' I q=>?_;clear h;exact⟨σ',H',I.unwish,q⟩
 | brk=>refine xj h fun σ' H' I q=>?_;clear h;exact⟨σ',H',I.unwish,q⟩
 | cont=>refine xj h fun σ' H' I q=>?_;clear h;exact⟨σ',H',I.unwish,q⟩
 | ret u=>refine xE h fun v σ' H' I r q=>?_;clear h;exact⟨v,σ',H',I.unwish,r,q⟩
theorem PSs.nox {st:List Stmt} {t:TS} (h:PSs X.nox st t):PSs X st t:=fun pins s σ H D I hw=>
 K7 (h pins s σ H D (I.wish _) hw) (fun _ _ q=>q.unwish) fun _ _ z=>False.elim z
end
section
variable {X:Cx} {st:Stmt} {rest:List Stmt} {t u:TS} {e:Expr} {te:TE} {pos:Pos}
def tNext:TS:=fun D σ H=>D.nx σ H
def tSeq (t u:TS):TS:=fun D σ H=>t {D with nx:=u D} σ H
theorem yil:PSs X [] tNext:=fun _ _ σ H _ I h=>Gc ⟨σ,H,I,h⟩
theorem zrc (h1:PS X st t) (h2:PSs X rest u):PSs X (st::rest) (tSeq t u):=by
 intro pins s σ H D I h;refine wpAny_execs_cons (thn (h1 pins s σ H {D with nx:=u D} I h) fun f s1 q=>?_);cases f with
 | next=>
  refine xj q fun σ' H' I' q=>?_;exact h2 pins s1 σ' H' D I' q
 | ret v=>exact q
 | brk=>exact q
 | cont=>exact q
theorem Inv.quiet {pins:List (Addr×Obj)} {σ:St} {H:Hp} {s:Shared} (I:Inv X pins σ H s):interactive X.env=false:=by simp [interactive,I.ok.kind]
def tDrop (te:TE):TS:=fun D σ H=>te σ H fun _ H1=>D.nx σ H1
theorem zpe (he:PE X e te) (hs:swapsWith e none pos.line X.env=pure false:=by rfl):PS X (.Expr e pos) (tDrop te):=by
 intro pins s σ H D I h;exact wpAny_Expr_any (thn (he pins s σ H _ I h) fun v s1 hz=>xc hz fun x H1 I1 r1 q1=>⟨σ,H1,I1,q1⟩) I.quiet hs
def tRet (te:TE):TS:=fun D σ H=>te σ H D.rt
theorem yfk (he:PE X e te):PS X (.Return (some e) pos) (tRet te):=by
 intro pins s σ H D I h;exact wpAny_Return_some (thn (he pins s σ H _ I h) fun v s1 hz=>xc hz fun x H1 I1 r1 q1=>⟨x,σ,H1,I1,r1,q1⟩)
def tIfS (c:TT) (t u:TS):TS:=fun D σ H=>c σ H fun b H1=>if b=true then t D σ H1 else u D σ H1
theorem ps_if {c:Expr} {a b:List Stmt} {tc:TT} (hc:PT X c tc) (ha:PSs X a t) (hb:PSs X b u):PS X (.If c a b pos) (tIfS tc t u):=by
 intro pins s σ H D I h;refine wpAny_If (thn (hc pins s σ H _ I h) fun d s1 hz=>xa hz fun H1 I1 q1=>?_);cases d with
 | true=>exact ha pins s1 σ H1 D I1 q1
 | false=>exact hb pins s1 σ H1 D I1 q1
def tNever:TS:=fun _ _ _=>False
theorem zih {sts:List Stmt}:PSs X sts tNever:=fun _ _ _ _ _ _ h=>h.elim
end
abbrev TG:=V->St->Hp->(St->Hp->Prop)->Prop
abbrev TGs:=List V->St->Hp->(St->Hp->Prop)->Prop
def PG (X:Cx) (target:Expr) (t:TG):Prop:=
 ∀ (pins:List (Addr×Obj)) (s:Shared) (σ:St) (H:Hp) (v:V) (u:Value) (Q:St->Hp->Prop),Inv X pins σ H s->RelV v u->t v σ H Q ->
  wpAny (model X.prog X.w) X.A (assign target X.env u) (fun _ s'=>∃ σ' H',Inv X pins σ' H' s'/\Q σ' H') X.xe s
def PGs (X:Cx) (ts:List Expr) (t:TGs):Prop:=
 ∀ (pins:List (Addr×Obj)) (s:Shared) (σ:St) (H:Hp) (vs:List V) (us:List Value) (Q:St->Hp->Prop),Inv X pins σ H s->Vals vs us->t vs σ H Q ->
  wpAny (model X.prog X.w) X.A (assignInOrder ((assignEach ts X.env).map (·.2)) us) (fun _ s'=>∃ σ' H',Inv X pins σ' H' s'/\Q σ' H') X.xe s
abbrev TSet:=V->V->V->Hp->(Hp->Prop)->Prop
def PSet (X:Cx) (t:TSet):Prop:=
 ∀ (pins:List (Addr×Obj)) (s:Shared) (σ:St) (H:Hp) (o i v:V) (ov iv u:Value) (Q:Hp->Prop),Inv X pins σ H s->RelV o ov->RelV i iv->RelV v u->t o i v H Q ->
  wpAny (model X.prog X.w) X.A (setItem ov iv u) (fun _ s'=>∃ H',Inv X pins σ H' s'/\Q H') X.xe s
section
variable {X:Cx} {pos:Pos}
def gName (i:Nat):TG:=fun v σ H Q=>Q (σ.set i (some v)) H
theorem zwn {i:Nat} {x:Str} (hN:X.N.Nodup) (hi:X.N[i]? = some x) (hx:Loc X.env.scope x) (hf:X.fn x=true\/X.env.scope.names.lookup x=some .local:=by first | exact .inl rfl | exact .inr rfl | assumption):PG X (.Name x pos) (gName i):=by
 intro pins s σ H v u Q I r h;exact wpAny_assign_Name (zgy I hN hi hx r (fun s' I'=>⟨_,H,I',h⟩) hf)
def gNil:TGs:=fun vs σ H Q=>vs=[]/\Q σ H
def gCons (t:TG) (u:TGs):TGs:=fun vs σ H Q=>∃ v r,vs=v::r/\t v σ H fun σ' H'=>u r σ' H' Q
theorem zwm:PGs X [] gNil:=by
 intro pins s σ H vs us Q I r h;obtain⟨e,h⟩:=h
 subst e;cases r;exact assignInOrder_nil ⟨σ,H,I,h⟩
theorem zrg {e:Expr} {es:List Expr} {t:TG} {u:TGs} (h1:PG X e t) (h2:PGs X es u)
  (hs:(assignEach (e::es) X.env).map (·.2)=assign e X.env::(assignEach es X.env).map (·.2):=by rfl):PGs X (e::es) (gCons t u):=by
 intro pins s σ H vs us Q I r h;obtain⟨v,vr,e1,h⟩:=h
 subst e1;cases r with
 | cons r rr=>
  rw [hs];refine Vi (thn (h1 pins s σ H _ _ _ I r h) fun _ s1 ⟨σ1,H1,I1,q1⟩=>?_);exact h2 pins s1 σ1 H1 _ _ Q I1 rr q1
def gTup (K:PySem.W.Frag) (n:Nat) (t:TGs):TG:=fun v σ H Q=>∃ a xs,v=.ref a/\SqT K H a xs/\xs.length=n/\t xs σ H Q
theorem yfm {es:List Expr} {k:Nat} {t:TGs} {n:Nat} (hc:X.calm=true) (h:PGs X es t)
  (hn:(assignEach es X.env).length=n:=by rfl) (hst:(assignEach es X.env).findIdx? (·.1)=none:=by rfl):PG X (.Tuple es k pos) (gTup X.K n t):=by
 intro pins s σ H v u Q I r hw;obtain⟨a,xs,e1,hq,hl,hw⟩:=hw
 subst e1;cases r;obtain⟨its,rv,ht,hz⟩:=I.tuple hq
 refine assign_Tuple_tuple (I.ok.hd hc) ht (by simp [hn,<- hl,rv.length]) hst fun h' hx=>?_;have I1:Inv X pins σ H {s with heap:=h'}:=I.kept (t':=s.toks) fun b o e=>hx b o (Z3 (Zp e)) e
 exact h pins _ σ H xs _ Q I1 (by simpa using rv) hw
def gSub (to ti:TE) (t:TSet):TG:=fun v σ H Q=>to σ H fun o H1=>ti σ H1 fun i H2=>t o i v H2 fun H3=>Q σ H3
theorem pg_sub {o i:Expr} {to ti:TE} {t:TSet} (ho:PE X o to) (hi:PE X i ti) (hs:PSet X t)
  (ha:∀ v,assign (.Subscript o i pos) X.env v=(do
   let ov <- holding [v] (eval o X.env)
   let iv <- holding [v,ov] (eval i X.env)
   standAt pos
   holding [v,ov,iv] (setItem ov iv v)
   release [v,ov,iv] []):=by intro _;rfl):PG X (.Subscript o i pos) (gSub to ti t):=by
 intro pins s σ H v u Q I r h;rw [ha];refine Zc (Yq (thn (ho pins s σ H _ I h) fun ov s1 hz=>xc hz fun x H1 I1 r1 q1=>?_));refine Zc (Yq (thn (hi pins s1 σ H1 _ I1 q1) fun iv s2 hz=>xc hz fun y H2 I2 r2 q2=>?_));refine Zc (J1 (Zc (Yq (thn (hs pins s2 σ H2 x y v ov iv u _ I2 r1 r2 r q2) fun _ s3 hz=>xa hz fun H3 I3 q3=>?_))));exact wpAny_release ⟨σ,H3,I3,q3⟩
def tAsg (te:TE) (g:TG):TS:=fun D σ H=>te σ H fun x H1=>g x σ H1 D.nx
theorem yfl {tg e:Expr} {te:TE} {g:TG} (he:PE X e te) (hg:PG X tg g) (hs:swapsWithSole [tg] e pos.line X.env=pure false:=by rfl) (hw:swappedStores [tg] e X.env=pure none:=by rfl)
  (h1:(assignEach [tg] X.env).map (·.2)=[assign tg X.env]:=by rfl):PS X (.Assign [tg] e pos) (tAsg te g):=by
 intro pins s σ H D I h;refine wpAny_Assign_stores (thn (he pins s σ H _ I h) fun v s1 hz=>xc hz fun x H1 I1 r1 q1=>?_) hs hw;rw [h1];exact thn (hg pins s1 σ H1 x v _ I1 r1 q1) fun _ s2 q=>q
theorem ps_set {i:Nat} {x:Str} {e:Expr} {te:TE} {pos':Pos} (hN:X.N.Nodup) (hi:X.N[i]? = some x) (hx:Loc X.env.scope x) (he:PE X e te) (hs:swapsWith e (some (.Name x pos')) pos.line X.env=pure false:=by rfl) (hf:X.fn x=true\/X.env.scope.names.lookup x=some .local:=by first | exact .inl rfl | exact .inr rfl | assumption) :
  PS X (.Assign [.Name x pos'] e pos) (tAsg te (gName i)):=by
 intro pins s σ H D I h;refine wpAny_Assign_Name (thn (he pins s σ H _ I h) fun v s1 hz=>xc hz fun y H1 I1 r1 q1=>?_) hs;exact zgy I1 hN hi hx r1 (fun s2 I2=>⟨_,H1,I2,q1⟩) hf
def tPar (i j:Nat) (ta:TA):TS:=fun D σ H=>ta σ H fun vs H1=>∃ v w,vs=[v,w]/\D.nx ((σ.set i (some v)).set j (some w)) H1
theorem ps_par {i j:Nat} {x y:Str} {a b:Expr} {ta:TA} {px py pt:Pos} {kt k2 pt2} (hc:X.calm=true) (hN:X.N.Nodup) (hi:X.N[i]? = some x) (hj:X.N[j]? = some y) (hij:i≠j)
  (hx:X.env.scope.names.lookup x=some .local) (hy:X.env.scope.names.lookup y=some .local) (ha:PA X [a,b] ta)
  (hw:swappedStores [.Tuple [.Name x px,.Name y py] kt pt] (.Tuple [a,b] k2 pt2) X.env=pure (some [x,y]))
  (hs:swapsWithSole [.Tuple [.Name x px,.Name y py] kt pt] (.Tuple [a,b] k2 pt2) pos.line X.env=pure false:=by rfl) :
  PS X (.Assign [.Tuple [.Name x px,.Name y py] kt pt] (.Tuple [a,b] k2 pt2) pos) (tPar i j ta):=by
 intro pins s σ H D I h;rw [exec_Assign_arm];refine Zc (J1 ?_);rw [hs];refine Zc (Zi ?_);rw [if_neg (by decide)];refine Zc (Tuple_ (thn (ha _ pins s σ H _ I h) fun us s1 ⟨vs,H1,I1,r1,q1⟩=>?_));obtain⟨v,w,e1,q1⟩:=q1
 subst e1;obtain⟨u1,u2,rfl,rv,rw'⟩:∃ u1 u2,us=[u1,u2]/\RelV v u1/\RelV w u2:=by
  cases r1 with
  | cons p q=>
   cases q with
   | cons p' q'=>
    cases q';exact⟨_,_,rfl,p,p'⟩
 refine Q3 ?_ (by show 2<=sizeLine;decide);have I2:Inv X pins σ H1 {s1 with heap:=s1.heap.push {cls:=.type "tuple", data:=.seq [u1,u2].toArray} }:=I1.kept (t':=s1.toks) fun b o e=>Zh _ e
 rw [hw];refine Zc (Zi ?_);show wpAny (model X.prog X.w) X.A (do rule "assign.swapped-stores"; let items <- unpackItems (.ref s1.heap.objs.size) 2 none;assignInOrder [fun v=>bindName X.env y v,fun v=>bindName X.env x v] items.reverse;pure Flow.next) _ _ _;refine Zc (wpAny_rule (Zc (unpackItems_tuple (items:=#[u1,u2]) (I.ok.hd hc) (IsTup.new s1.heap _) fun h' hx'=>?_)));have I3:=I2.kept (h':=h') (t':=s1.toks) fun b o e=>hx' b o (Z3 (Zp e)) e
 show wpAny _ _ (assignInOrder [fun v=>bindName X.env y v,fun v=>bindName X.env x v] [u2,u1] >>= fun _=>pure Flow.next) _ _ _;refine Zc (Vi (wpAny_bindName (zgy I3 hN hj (.inl hy) rw' (fun s2 I4=>?_) (.inr hy))));refine Vi (wpAny_bindName (zgy I4 hN hi (.inl hx) rv (fun s3 I5=>assignInOrder_nil (Zi ?_)) (.inr hx)));rw [List.set_comm _ _ (Wk hij)] at I5;exact⟨_,H1,I5,q1⟩
end
section
variable {X:Cx} {pos:Pos}
def tWhile (c:TT) (tb:TS):TS:=fun D σ H=>∃ W:Nat->St->Hp->Prop,(∃ m,W m σ H)/\∀ m σ H,W m σ H ->
 c σ H fun b H1=>if b=true then ∃ N:St->Hp->Prop,(∀ σ' H',N σ' H'->∃ m',m'<m/\W m' σ' H')/\tb {D with nx:=N,ct:=N,bk:=D.nx} σ H1 else D.nx σ H1
theorem ych {c:Expr} {body:List Stmt} {tc:TT} {tb:TS} (hp:PassesOwn (model X.prog X.w) X.A X.env X.xe) (hc:PT X c tc) (hb:PSs X body tb):PS X (.While c body [] pos) (tWhile tc tb):=by
 intro pins s σ H D I h;obtain⟨W,⟨m0,w0⟩,turn⟩:=h
 refine wpAny_While (codeAny_whileLoop (fun n s'=>∃ σ' H',Inv X pins σ' H' s'/\W n σ' H') ?_ m0 ⟨σ,H,I,w0⟩);rintro n s1 ⟨σ1,H1,I1,w1⟩
 refine Qz hp (thn (hc pins s1 σ1 H1 _ I1 (turn n σ1 H1 w1)) fun b s2 hz=>xa hz fun H2 I2 q2=>?_);cases b with
 | true=>
  refine xa q2 fun N hN q2=>?_;rw [if_pos rfl];refine Qz hp (thn (hb pins s2 σ1 H2 _ I2 q2) fun f s3 q3=>?_);cases f with
  | next=>
   refine xj q3 fun σ3 H3 I3 n3=>?_;clear q3
   refine xa (hN σ3 H3 n3) fun m' hm w3=>?_;exact⟨m',hm,σ3,H3,I3,w3⟩
  | cont=>
   refine xj q3 fun σ3 H3 I3 n3=>?_;clear q3
   refine xa (hN σ3 H3 n3) fun m' hm w3=>?_;exact⟨m',hm,σ3,H3,I3,w3⟩
  | brk=>exact q3
  | ret v=>exact q3
 | false=>
  rw [if_neg Z2];exact Gc ⟨σ1,H2,I2,q2⟩
end
structure It where
 go:Nat->Hp->Prop
 yld:Nat->Hp->V->Hp->Prop
 stop:Nat->Hp->Prop
def FpOk (X:Cx) (pins:List (Addr×Obj)) (H:Hp) (b:Addr):Prop:=
 H b=none/\b≠X.env.locals/\b∉X.fs/\(b∈X.ex\/X.s₀.heap.objs.size<=b)/\(∀ x c,X.env.cells.lookup x=some c->c≠b)/\∀ p∈X.pn++pins,p.1≠b
theorem Inv.fpOk {X:Cx} {pins:List (Addr×Obj)} {σ:St} {H H':Hp} {s:Shared} {b:Addr} (I:Inv X pins σ H s) (hb:s.heap.objs.size<=b) (hn:H' b=none):FpOk X pins H' b:=by
 refine⟨hn,Ya (Zl I.lt hb),I.nofs hb,.inr (Yn I.sz hb),fun x c e z=>?_,fun p hp z=>?_⟩
 ·refine xb (I.cell x c e) fun v q=>?_;exact absurd (Zl q.lt (by rw [z];exact hb)) (Nat.lt_irrefl _)
 ·exact absurd (Zl (Zp (I.pin p hp).1) (by rw [z];exact hb)) (Nat.lt_irrefl _)
structure Turn (P:Program) (w:World) (K:PySem.W.Frag) (tg:Expr) (J:It) (fp:List Addr) (it:Addr) (tn:Nat->Heap->Prop):Prop where
 mem:it∈fp
 obj:∀ i h,tn i h->∀ b∈fp,∃ o,h.get? b=some o/\∀ v,o.data ≠ .cell v
 keep:∀ i h h',tn i h->(∀ b∈fp,∀ o,h.get? b=some o->h'.get? b=some o)->tn i h'
 item:∀ (X:Cx),X.prog=P->X.w=w->X.K=K->X.calm=true->∀ (i:Nat) (pins:List (Addr×Obj)) (s:Shared) (σ:St) (H:Hp) (E:Value->Shared->Prop),Inv X pins σ H s->(∀ b∈fp,FpOk X pins H b)->tn i s.heap->J.go i H ->
  wpAny (model P w) X.A (pyNext (.ref it)) (fun r s1=>∃ u,r=some u /\
   wpAny (model P w) X.A (letOwnedTupleGo tg (.ref it) u) (fun _ s2=>∃ x H',Inv X pins σ H' s2/\RelV x u/\J.yld i H x H'/\tn (i+1) s2.heap/\∀ b∈fp,H' b=none) E s1) E s
 done:∀ (X:Cx),X.prog=P->X.w=w->X.K=K->X.calm=true->∀ (i:Nat) (pins:List (Addr×Obj)) (s:Shared) (σ:St) (H:Hp) (E:Value->Shared->Prop),Inv X pins σ H s->(∀ b∈fp,FpOk X pins H b)->tn i s.heap->J.stop i H ->
  wpAny (model P w) X.A (pyNext (.ref it)) (fun r s1=>r=none/\Inv X pins σ H s1) E s
 self:∀ (A:Around) (i:Nat) (s:Shared) (Q:Value->Shared->Prop) (E:Value->Shared->Prop),tn i s.heap->Q (.ref it) s->wpAny (model P w) A (pyIter (.ref it)) Q E s
abbrev TI:=St->Hp->(It->Hp->Prop)->Prop
def PIE (X:Cx) (pins:List (Addr×Obj)) (σ:St) (tg:Expr) (R:It->Hp->Prop) (itv:Value) (s2:Shared):Prop:=
 ∃ (it:Addr) (fp:List Addr) (tn:Nat->Heap->Prop) (J:It) (H':Hp),itv=.ref it/\Inv X pins σ H' s2/\Turn X.prog X.w X.K tg J fp it tn/\tn 0 s2.heap/\(∀ b∈fp,FpOk X pins H' b)/\R J H'
def PI (X:Cx) (tg iter:Expr) (wi:TI):Prop:=
 ∀ (pins:List (Addr×Obj)) (s:Shared) (σ:St) (H:Hp) (R:It->Hp->Prop),Inv X pins σ H s->wi σ H R ->
  wpAny (model X.prog X.w) X.A (eval iter X.env) (fun v s1=>wpAny (model X.prog X.w) X.A (pyIter v) (PIE X pins σ tg R) X.xe s1) X.xe s
theorem yjv {M:Model} {A:Around} {E:Value->Shared->Prop} {s:Shared} {tg:Expr} {it:Addr} {u:Value} {o:Obj} {n:String} {vs:Array Value} {Q:Unit->Shared->Prop} (ho:s.heap.get? it=some o) (hc:o.cls=.type n) (hd:o.data=.fields vs)
    (hn:["enumerate", "zip", "dict_itemiterator", "dict_reverseitemiterator", "odict_iterator", "itertools.zip_longest", "itertools.pairwise"].contains n=false) (hQ:Q () s):wpAny M A (letOwnedTupleGo tg (.ref it) u) Q E s:=by
  unfold letOwnedTupleGo;cases tg <;> first
    | exact Zi hQ
    | (cases u <;> first
        | exact Zi hQ
        | (refine Zc (wpAny_load ho ?_)
           rw [hc,hd];show wpAny M A (if (["enumerate", "zip", "dict_itemiterator", "dict_reverseitemiterator", "odict_iterator", "itertools.zip_longest", "itertools.pairwise"].contains n && vs[0]? == some (rawInt _))=true then _ else _) Q E s;rw [if_neg (by intro h;rw [hn,Bool.false_and] at h;cases h)];exact Zi hQ))
def Itl (K:PySem.W.Frag) (a:Addr):It:=
 ⟨fun i H=>∃ xs x,SqL K H a xs/\xs[i]? = some x,fun i H x H'=>H'=H/\∀ xs,SqL K H a xs->xs[i]? = some x,fun i H=>∃ xs,SqL K H a xs/\xs.length<=i⟩
def Itt (K:PySem.W.Frag) (a:Addr):It:=
 ⟨fun i H=>∃ xs x,SqT K H a xs/\xs[i]? = some x,fun i H x H'=>H'=H/\∀ xs,SqT K H a xs->xs[i]? = some x,fun i H=>∃ xs,SqT K H a xs/\xs.length<=i⟩
def Itr (lo:Int) (n:Nat):It:=⟨fun i _=>i<n,fun i H x H'=>H'=H/\x=.int (lo+i),fun i _=>n<=i⟩
theorem zux {P:Program} {w:World} {K:PySem.W.Frag} {tg:Expr} (a it:Addr):Turn P w K tg (Itl K a) [it] it (fun i h=>h.IsListIter it a i) where
 mem:=by simp
 obj:=fun i h st b hb=>by
  have e:b=it:=by simpa using hb
  subst e;refine xh st fun o e c d=>?_;clear st
  exact⟨o,e,fun v z=>by rw [d] at z;cases z⟩
 keep:=fun i h h' st k=>st.at fun o e=>k it (by simp) o e
 item:=by
  intro X hP hw hK hc i pins s σ H E I hf st hg;subst hP hw hK;refine xj hg fun xs x hq hx=>?_;clear hg
  refine xh (I.list hq) fun its rv p hz=>?_;refine xa (rv.get hx) fun u hu ru=>?_;refine xu (hf it (by simp)) fun f0 f1 f2 f3 f4 f5=>?_;refine G6 st p.isList (x:=u) (by simpa using hu) fun h' st' sb=>?_;have I1:Inv X pins σ H {s with heap:=h'}:=I.turned (t':=s.toks) (fun b o hb e=>(sb.2 b hb).trans e) f0 f1 f3 f4 f5;refine xh (id st') fun o e c d=>?_;exact⟨u,rfl,yjv (s:={s with heap:=h'}) e c d (by decide) ⟨x,H,I1,ru,⟨rfl,fun ys hy=>by rw [I.list_inj hy hq];exact hx⟩,st',fun b hb=>(hf b hb).1⟩⟩
 done:=by
  intro X hP hw hK hc i pins s σ H E I hf st hg;subst hP hw hK;refine xa hg fun xs hq hx=>?_;clear hg
  refine xh (I.list hq) fun its rv p hz=>?_;refine xu (hf it (by simp)) fun f0 f1 f2 f3 f4 f5=>?_;have hl:=rv.length;exact Bh (I.ok.hd hc) st p.isList (by simp;omega) fun h' eb=>⟨rfl,I.turned (t':=s.toks) (fun b o hb e=>eb b o hb e) f0 f1 f3 f4 f5⟩
 self:=fun _ _ _ _ _ st h=>wpAny_pyIter_listiter st h
theorem zsz {P:Program} {w:World} {K:PySem.W.Frag} {tg:Expr} (a it:Addr):Turn P w K tg (Itt K a) [it] it (fun i h=>h.IsTupleIter it a i) where
 mem:=by simp
 obj:=fun i h st b hb=>by
  have e:b=it:=by simpa using hb
  subst e;refine xh st fun o e c d=>?_;clear st
  exact⟨o,e,fun v z=>by rw [d] at z;cases z⟩
 keep:=fun i h h' st k=>st.at fun o e=>k it (by simp) o e
 item:=by
  intro X hP hw hK hc i pins s σ H E I hf st hg;subst hP hw hK;refine xj hg fun xs x hq hx=>?_;clear hg
  refine xh (I.tuple hq) fun its rv p hz=>?_;refine xa (rv.get hx) fun u hu ru=>?_;refine xu (hf it (by simp)) fun f0 f1 f2 f3 f4 f5=>?_;refine wpAny_pyNext_tuple_item st (show s.heap.IsTuple a its.toArray from p) (x:=u) (by simpa using hu) fun h' st' sb=>?_;have I1:Inv X pins σ H {s with heap:=h'}:=I.turned (t':=s.toks) (fun b o hb e=>(sb.2 b hb).trans e) f0 f1 f3 f4 f5;refine xh (id st') fun o e c d=>?_;exact⟨u,rfl,yjv (s:={s with heap:=h'}) e c d (by decide) ⟨x,H,I1,ru,⟨rfl,fun ys hy=>by rw [I.tuple_inj hy hq];exact hx⟩,st',fun b hb=>(hf b hb).1⟩⟩
 done:=by
  intro X hP hw hK hc i pins s σ H E I hf st hg;subst hP hw hK;refine xa hg fun xs hq hx=>?_;clear hg
  refine xh (I.tuple hq) fun its rv p hz=>?_;refine xu (hf it (by simp)) fun f0 f1 f2 f3 f4 f5=>?_;have hl:=rv.length;exact wpAny_pyNext_tuple_end (I.ok.hd hc) st (show s.heap.IsTuple a its.toArray from p) (by simp;omega) fun h' eb=>⟨rfl,I.turned (t':=s.toks) (fun b o hb e=>eb b o hb e) f0 f1 f3 f4 f5⟩
 self:=fun _ _ _ _ _ st h=>wpAny_pyIter_tupleiter st h
theorem zta {P:Program} {w:World} {K:PySem.W.Frag} {tg:Expr} (it:Addr) (lo:Int) (n:Nat):Turn P w K tg (Itr lo n) [it] it (fun i h=>IsRangeIter h it (lo+(i:Nat)*1) ((n:Int)-(i:Nat)) 1) where
 mem:=by simp
 obj:=fun i h st b hb=>by
  have e:b=it:=by simpa using hb
  subst e;exact⟨_,st,fun v z=>by
   have z':Data.fields _=Data.cell v:=z;cases z'⟩
 keep:=fun i h h' st k=>k it (by simp) _ st
 item:=by
  intro X hP hw hK hc i pins s σ H E I hf st hg;subst hP hw hK;refine xu (hf it (by simp)) fun f0 f1 f2 f3 f4 f5=>?_;have W:=Walks.range (prog:=X.prog) (w:=X.w) (I.ok.hd hc) it lo 1 n;refine W.item i s _ _ hg st fun v h' tk hv st' kk=>?_;refine xb hv fun t qz1=>?_;clear hv;subst qz1
  have I1:Inv X pins σ H {s with heap:=h',toks:=tk}:=I.turned (fun b o hb e=>kk b o (by simpa using hb) e) f0 f1 f3 f4 f5;refine⟨_,rfl,yjv (s:={s with heap:=h',toks:=tk}) (n := "range_iterator") st' rfl rfl (by decide) ⟨.int (lo+i),H,I1,⟨t,?_⟩,⟨rfl,rfl⟩,st',fun b hb=>(hf b hb).1⟩⟩
  rw [Vv]
 done:=by
  intro X hP hw hK hc i pins s σ H E I hf st hg;subst hP hw hK;refine xu (hf it (by simp)) fun f0 f1 f2 f3 f4 f5=>?_;exact wpAny_pyNext_range_end (I.ok.hd hc) st (by have:n<=i:=hg;omega) fun h' eb=>⟨rfl,I.turned (t':=s.toks) (fun b o hb e=>eb b o hb e) f0 f1 f3 f4 f5⟩
 self:=fun _ _ _ _ _ st h=>wpAny_pyIter_rangeiter st h
end L2
namespace L2
open PySem PySem.Spec PyProof.Rows
section
variable {X:Cx} {tg:Expr}
def iList (K:PySem.W.Frag) (tl:TE):TI:=fun σ H R=>tl σ H fun x H1=>∃ a,x=.ref a/\(∃ xs,SqL K H1 a xs)/\R (Itl K a) H1
def iTup (K:PySem.W.Frag) (tl:TE):TI:=fun σ H R=>tl σ H fun x H1=>∃ a,x=.ref a/\(∃ xs,SqT K H1 a xs)/\R (Itt K a) H1
theorem zpf {l:Expr} {tl:TE} (hl:PE X l tl):PI X tg l (iList X.K tl):=by
 intro pins s σ H R I h;refine thn (hl pins s σ H _ I h) fun v s1 hz=>xc hz fun x H1 I1 r1 q1=>?_
 obtain⟨a,e,⟨xs,hq⟩,q⟩:=q1
 subst e;cases r1;refine xh (I1.list hq) fun its rv p hz=>?_;refine Vs p.isList ?_;refine⟨s1.heap.objs.size,[s1.heap.objs.size],_,_,H1,rfl,I1.kept (t':=s1.toks) fun b o e=>Zh _ e,zux a _,⟨_,Z8 _ rfl,rfl,rfl⟩,fun b hb=>?_,q⟩
 have e:b=s1.heap.objs.size:=by simpa using hb
 subst e;exact I1.fpOk (Zg _) (I1.hok.fresh (Zg _))
theorem zwl {l:Expr} {tl:TE} (hl:PE X l tl):PI X tg l (iTup X.K tl):=by
 intro pins s σ H R I h;refine thn (hl pins s σ H _ I h) fun v s1 hz=>xc hz fun x H1 I1 r1 q1=>?_
 obtain⟨a,e,⟨xs,hq⟩,q⟩:=q1
 subst e;cases r1;refine xh (I1.tuple hq) fun its rv p hz=>?_;refine wpAny_pyIter_tuple (show s1.heap.IsTuple a its.toArray from p) ?_;refine⟨s1.heap.objs.size,[s1.heap.objs.size],_,_,H1,rfl,I1.kept (t':=s1.toks) fun b o e=>Zh _ e,zsz a _,⟨_,Z8 _ rfl,rfl,rfl⟩,fun b hb=>?_,q⟩
 have e:b=s1.heap.objs.size:=by simpa using hb
 subst e;exact I1.fpOk (Zg _) (I1.hok.fresh (Zg _))
theorem zra {pins:List (Addr×Obj)} {σ:St} {H:Hp} {s:Shared} {R:It->Hp->Prop} {E:Value->Shared->Prop} {lo hi:Int} {t u v:Tok} {tk:Nat} (I:Inv X pins σ H s) (h1 : -(2^62)<=lo) (h2:lo<2^62) (h3 : -(2^62)<=hi) (h4:hi<2^62)
  (q:R (Itr lo (hi-lo).toNat) H):wpAny (model X.prog X.w) X.A (pyIter (.ref s.heap.objs.size)) (PIE X pins σ tg R) E {s with heap:=s.heap.push {cls:=.type "range", data:=.fields #[.int lo t,.int hi u,.int 1 v]},toks:=tk}:=by
 refine wpAny_pyIter_range (IsRange.new ..) (small_one h1 h2 h3 h4) ?_;have I1:Inv X pins σ H {s with heap:=s.heap.push {cls:=.type "range", data:=.fields #[.int lo t,.int hi u,.int 1 v]},toks:=tk}:=I.kept fun b o e=>Zh _ e
 refine⟨(s.heap.push {cls:=.type "range", data:=.fields #[.int lo t,.int hi u,.int 1 v]}).objs.size,[(s.heap.push {cls:=.type "range", data:=.fields #[.int lo t,.int hi u,.int 1 v]}).objs.size],_,_,H,rfl,
  I1.kept (t':=tk) fun b o e=>Zh _ e,zta _ lo (hi-lo).toNat,?_,fun b hb=>?_,q⟩
 ·have e1:lo+((0:Nat):Int)*1=lo:=by simp
  have e2:(((hi-lo).toNat:Nat):Int)-((0:Nat):Int)=Builtin.Range.rangeSize lo hi 1:=by rw [rangeSize_one];split <;> omega
  show IsRangeIter _ _ (lo+((0:Nat):Int)*1) ((((hi-lo).toNat:Nat):Int)-((0:Nat):Int)) 1;rw [e1,e2];exact Z8 _ rfl
 ·have e:b=(s.heap.push {cls:=.type "range", data:=.fields #[.int lo t,.int hi u,.int 1 v]}).objs.size:=by simpa using hb
  subst e;exact I1.fpOk (Zg _) (I1.hok.fresh (Zg _))
def iRng1 (ta:TA):TI:=fun σ H R=>ta σ H fun vs H1=>∃ j:Int,vs=[.int j] /\ -(2^62)<=j/\j<2^62/\R (Itr 0 j.toNat) H1
def iRng2 (ta:TA):TI:=fun σ H R=>ta σ H fun vs H1=>∃ i j:Int,vs=[.int i,.int j]/\(-(2^62)<=i/\i<2^62 /\ -(2^62)<=j/\j<2^62)/\R (Itr i (j-i).toNat) H1
theorem znn {a:Expr} {ta:TA} {p pos:Pos} (hg:Gl X "range") (hm:X.mg "range" = none) (ha:PA X [a] ta) (hs:starEach [a] X.env=[(false,eval a X.env)]:=by rfl):PI X tg (.Call (.Name "range" p) [a] [] pos) (iRng1 ta):=by
 intro pins s σ H R I h;refine Call_ (zfe I hg hm boot_range (Wl (thn (ha pos pins s σ H _ I h) fun us s1 ⟨vs,H1,I1,r1,q1⟩=>?_) hs rfl));obtain⟨j,e,q1,q2,q⟩:=q1
 subst e;cases r1 with
 | cons r rr=>
  cases rr;obtain⟨t,rfl⟩:=r
  exact call_range_1 (zra I1 (by omega) (by omega) q1 q2 (by simpa using q))
theorem znm {a b:Expr} {ta:TA} {p pos:Pos} (hg:Gl X "range") (hm:X.mg "range" = none) (ha:PA X [a,b] ta) (hs:starEach [a,b] X.env=[(false,eval a X.env),(false,eval b X.env)]:=by rfl) (hs2:starEach [b] X.env=[(false,eval b X.env)]:=by rfl) :
  PI X tg (.Call (.Name "range" p) [a,b] [] pos) (iRng2 ta):=by
 intro pins s σ H R I h;refine Call_ (zfe I hg hm boot_range (Wl (thn (ha pos pins s σ H _ I h) fun us s1 hz=>xc hz fun vs H1 I1 r1 q1=>?_) (by rw [hs,hs2]) (by rw [hs2];rfl)));obtain⟨i,j,e,⟨q1,q2,q3,q4⟩,q⟩:=q1
 subst e;cases r1 with
 | cons r rr=>
  cases rr with
  | cons r' rr=>
   cases rr;refine xb r fun t qz1=>?_;clear r;subst qz1
   refine xb r' fun t' qz1=>?_;clear r';subst qz1
   exact call_range_2 (zra I1 q1 q2 q3 q4 q)
def tFor (wi:TI) (g:TG) (tb:TS):TS:=fun D σ H=>wi σ H fun J H1=>∃ W:Nat->Nat->St->Hp->Prop,(∃ m,W 0 m σ H1)/\∀ i m σ H,W i m σ H ->
 (J.stop i H/\D.nx σ H)\/(J.go i H/\∃ N:St->Hp->Prop,(∀ σ' H',N σ' H'->∃ m',m'<m/\W (i+1) m' σ' H')/\∀ x H',J.yld i H x H'->g x σ H' fun σ2 H2=>tb {D with nx:=N,ct:=N,bk:=D.nx} σ2 H2)
def zka (fp:List Addr) (h:Heap):List (Addr×Obj):=fp.filterMap fun b=>(h.get? b).map fun o=>(b,o)
theorem zec {fp:List Addr} {h:Heap} {b:Addr} {o:Obj} (hb:b∈fp) (e:h.get? b=some o):(b,o)∈zka fp h:=Kb.mpr ⟨b,hb,by rw [e];rfl⟩
theorem zws {fp:List Addr} {h:Heap} {p:Addr×Obj} (hp:p∈zka fp h):p.1∈fp/\h.get? p.1=some p.2:=by
 refine xa (Kb.mp hp) fun b hb e=>?_;cases q:h.get? b with
 | none=>rw [q] at e;cases e
 | some o=>
  rw [q] at e;have e':(b,o)=p:=Ye e;subst e';exact⟨hb,q⟩
theorem Inv.pinned {pins:List (Addr×Obj)} {σ:St} {H:Hp} {s:Shared} {fp:List Addr} (I:Inv X pins σ H s) (hf:∀ b∈fp,FpOk X pins H b) (ho:∀ b∈fp,∃ o,s.heap.get? b=some o/\∀ v,o.data ≠ .cell v):Inv X (pins++zka fp s.heap) σ H s:=
 I.pins_of fun p hp=>(Y6.mp hp).elim (fun z=>I.pin p (Yj _ z)) fun z=>by
  refine xg (zws z) fun hb e=>?_;refine xk (hf p.1 hb) fun f0 f1 f2 _=>?_;refine xa (ho p.1 hb) fun o e' d=>?_;rw [e] at e';cases e';exact⟨e,f0,f1,f2,d⟩
theorem Inv.unpinned {pins pl:List (Addr×Obj)} {σ:St} {H:Hp} {s:Shared} (I:Inv X (pins++pl) σ H s):Inv X pins σ H s:=I.pins_of fun p hp=>I.pin p (Yj _ (W1 _ hp))
theorem ps_for {iter:Expr} {body:List Stmt} {wi:TI} {g:TG} {tb:TS} {pos:Pos} (hp:PassesOwn (model X.prog X.w) X.A X.env X.xe) (hc:X.calm=true) (hi:PI X tg iter wi) (hg:PG X tg g) (hb:PSs X body tb)
  (hs:∀ x,foldedSetIterable iter X.env x=pure x:=by intro _;rfl):PS X (.For tg iter body [] pos) (tFor wi g tb):=by
 intro pins s σ H D I h;refine wpAny_For (thn (hi pins s σ H _ I h) fun v s1 h1=>thn h1 fun itv s2 h2=>?_) hs;obtain⟨it,fp,tn,J,H2,e,I2,T,st2,f2,W,⟨m0,w0⟩,turn⟩:=h2
 subst e;have stat:∀ {H':Hp},(∀ b∈fp,H' b=none)->∀ b∈fp,FpOk X pins H' b:=fun hn b hb=>⟨hn b hb,(f2 b hb).2⟩
 refine codeAny_forLoop_any (fun n s'=>∃ i σ' H',Inv X pins σ' H' s'/\tn i s'.heap/\(∀ b∈fp,H' b=none)/\W i n σ' H') ?_ m0 ⟨0,σ,H2,I2,st2,fun b hb=>(f2 b hb).1,w0⟩;rintro n s3 ⟨i,σ3,H3,I3,st3,fr3,w3⟩
 rcases turn i n σ3 H3 w3 with⟨stop,qn⟩ | ⟨go,N,hN,step⟩
 ·refine Qz hp (thn (T.done X rfl rfl rfl hc i pins s3 σ3 H3 X.xe I3 (stat fr3) st3 stop) fun r s4 hz=>xg hz fun hr I4=>?_);subst hr;exact Gc ⟨σ3,H3,I4,qn⟩
 ·refine Qz hp (thn (T.item X rfl rfl rfl hc i pins s3 σ3 H3 X.xe I3 (stat fr3) st3 go) fun r s4 hz=>xa hz fun u hr h4=>?_);subst hr;refine Qz hp (thn h4 fun _ s5 hz=>xm hz fun x H5 I5 r5 y5 st5 fr5=>?_);have I5':=I5.pinned (stat fr5) (T.obj _ _ st5);refine Qz hp (thn (hg _ s5 σ3 H5 x u _ I5' r5 (step x H5 y5)) fun _ s6 hz=>xj hz fun σ6 H6 I6 q6=>?_);refine Qz hp (thn (hb _ s6 σ6 H6 _ I6 q6) fun f s7 q7=>?_);have again:∀ {σ7:St} {H7:Hp},Inv X (pins++zka fp s5.heap) σ7 H7 s7->N σ7 H7->∃ m,m<n/\∃ i σ' H',Inv X pins σ' H' s7/\tn i s7.heap/\(∀ b∈fp,H' b=none)/\W i m σ' H':=fun {σ7 H7} I7 n7=>by
   refine xa (hN σ7 H7 n7) fun m' hm w7=>?_;refine⟨m',hm,i+1,σ7,H7,I7.unpinned,T.keep _ _ _ st5 fun b hb o e=>(I7.pin (b,o) (Yj _ (Yj _ (zec hb e)))).1,fun b hb=>?_,w7⟩
   refine xa (T.obj _ _ st5 b hb) fun o e d=>?_;exact (I7.pin (b,o) (Yj _ (Yj _ (zec hb e)))).2.1
  cases f with
  | next=>refine xj q7 fun σ7 H7 I7 n7=>?_;clear q7;exact again I7 n7
  | cont=>refine xj q7 fun σ7 H7 I7 n7=>?_;clear q7;exact again I7 n7
  | brk=>refine xj q7 fun σ7 H7 I7 q7=>?_;exact⟨σ7,H7,I7.unpinned,q7⟩
  | ret v=>refine xE q7 fun x7 σ7 H7 I7 r7 q7=>?_;exact⟨x7,σ7,H7,I7.unpinned,r7,q7⟩
end
end L2
namespace L2
open PySem PySem.Spec PyProof.Rows
abbrev R2:=V->V->Hp->VK->Prop
def OpR (X:Cx) (f:Value->Value->Sem Value) (r:R2):Prop:=
 ∀ (pins:List (Addr×Obj)) (s:Shared) (σ:St) (H:Hp) (x y:V) (v u:Value) (Q:VK),Inv X pins σ H s->RelV x v->RelV y u->r x y H Q ->
  wpAny (model X.prog X.w) X.A (f v u) (EP X pins σ Q) X.xe s
def UnR (X:Cx) (f:Value->Sem Value) (r:V->Hp->VK->Prop):Prop:=
 ∀ (pins:List (Addr×Obj)) (s:Shared) (σ:St) (H:Hp) (x:V) (v:Value) (Q:VK),Inv X pins σ H s->RelV x v->r x H Q ->
  wpAny (model X.prog X.w) X.A (f v) (EP X pins σ Q) X.xe s
def zjq (X:Cx) (f:Value) (r:List V->Hp->VK->Prop):Prop:=
 ∀ (pins:List (Addr×Obj)) (s:Shared) (σ:St) (H:Hp) (xs:List V) (us:List Value) (Q:VK),Inv X pins σ H s->Vals xs us->r xs H Q ->
  wpAny (model X.prog X.w) X.A (call f us) (EP X pins σ Q) X.xe s
def tOp (r:R2) (ta tb:TE):TE:=fun σ H Q=>ta σ H fun x H1=>tb σ H1 fun y H2=>r x y H2 Q
def tUn (r:V->Hp->VK->Prop) (ta:TE):TE:=fun σ H Q=>ta σ H fun x H1=>r x H1 Q
def rI (C:Int->Int->Prop) (g:Int->Int->V):R2:=fun x y H Q=>∃ i j,x=.int i/\y=.int j/\C i j/\Q (g i j) H
def rI0 (g:Int->Int->V):R2:=fun x y H Q=>∃ i j,x=.int i/\y=.int j/\Q (g i j) H
def rU (g:Int->V):V->Hp->VK->Prop:=fun x H Q=>∃ i,x=.int i/\Q (g i) H
section
variable {X:Cx} {a b c:Expr} {ta tb tc:TE} {pos:Pos}
theorem binT (ha:PE X a ta) (hb:PE X b tb) {pins:List (Addr×Obj)} {s:Shared} {σ:St} {H:Hp} {R:V->V->Hp->Prop} (I:Inv X pins σ H s)
  (h:ta σ H fun x H1=>tb σ H1 fun y H2=>R x y H2) {Q:Value->Shared->Prop} {f:Value->Value->Sem Value}
  (hf:∀ v u s2 x y H2,Inv X pins σ H2 s2->RelV x v->RelV y u->R x y H2->wpAny (model X.prog X.w) X.A (f v u) Q X.xe s2) :
  wpAny (model X.prog X.w) X.A (eval a X.env) (fun v s₁=>wpAny (model X.prog X.w) X.A (eval b X.env) (fun u s₂=>wpAny (model X.prog X.w) X.A (f v u) Q X.xe s₂) X.xe s₁) X.xe s:=by
 refine thn (ha pins s σ H _ I h) fun v s1 hz=>xc hz fun x H1 I1 r1 q1=>?_
 refine thn (hb pins s1 σ H1 _ I1 q1) fun u s2 hz=>xc hz fun y H2 I2 r2 q2=>?_
 exact hf v u s2 x y H2 I2 r1 r2 q2
theorem yiq {op:Operator} {r:R2} (ho:OpR X (binaryOp op) r) (ha:PE X a ta) (hb:PE X b tb):PE X (.BinOp a op b pos) (tOp r ta tb):=by
 intro pins s σ H Q I h;exact wpAny_BinOp (binT ha hb I h fun v u s2 x y H2 I2 rx ry q=>ho pins s2 σ H2 x y v u Q I2 rx ry q)
theorem pe_un {op:UnaryOp} {r:V->Hp->VK->Prop} (ho:UnR X (unaryOp op) r) (ha:PE X a ta):PE X (.UnaryOp op a pos) (tUn r ta):=by
 intro pins s σ H Q I h;exact UnaryOp_ (thn (ha pins s σ H _ I h) fun v s1 hz=>xc hz fun x H1 I1 r1 q1=>ho pins s1 σ H1 x v Q I1 r1 q1)
theorem opI {f:Value->Value->Sem Value} {C:Int->Int->Prop} {g:Int->Int->Int}
  (rule:∀ (i j:Int) (t u:Tok) (s:Shared) (Q:Value->Shared->Prop) (E:Value->Shared->Prop),C i j->Q (.int (g i j) s.toks) {s with toks:=s.toks+1}->wpAny (model X.prog X.w) X.A (f (.int i t) (.int j u)) Q E s) :
  OpR X f (rI C fun i j=>.int (g i j)):=by
 intro pins s σ H x y v u Q I rx ry h;refine xo h fun i j qz2 qz3 hc q=>?_;clear h;subst qz2;subst qz3
 refine xb rx fun t qz1=>?_;clear rx;subst qz1
 refine xb ry fun t' qz1=>?_;clear ry;subst qz1
 exact rule i j t t' s _ _ hc ⟨.int (g i j),H,I.tok _,⟨_,rfl⟩,q⟩
theorem opI0 {f:Value->Value->Sem Value} {g:Int->Int->Int}
  (rule:∀ (i j:Int) (t u:Tok) (s:Shared) (Q:Value->Shared->Prop) (E:Value->Shared->Prop),Q (.int (g i j) s.toks) {s with toks:=s.toks+1}->wpAny (model X.prog X.w) X.A (f (.int i t) (.int j u)) Q E s) :
  OpR X f (rI0 fun i j=>.int (g i j)):=by
 intro pins s σ H x y v u Q I rx ry h;refine xc h fun i j qz2 qz3 q=>?_;clear h;subst qz2;subst qz3
 refine xb rx fun t qz1=>?_;clear rx;subst qz1
 refine xb ry fun t' qz1=>?_;clear ry;subst qz1
 exact rule i j t t' s _ _ ⟨.int (g i j),H,I.tok _,⟨_,rfl⟩,q⟩
theorem opB0 {f:Value->Value->Sem Value} {g:Int->Int->Bool}
  (rule:∀ (i j:Int) (t u:Tok) (s:Shared) (Q:Value->Shared->Prop) (E:Value->Shared->Prop),Q (.bool (g i j)) s->wpAny (model X.prog X.w) X.A (f (.int i t) (.int j u)) Q E s) :
  OpR X f (rI0 fun i j=>.bl (g i j)):=by
 intro pins s σ H x y v u Q I rx ry h;refine xc h fun i j qz2 qz3 q=>?_;clear h;subst qz2;subst qz3
 refine xb rx fun t qz1=>?_;clear rx;subst qz1
 refine xb ry fun t' qz1=>?_;clear ry;subst qz1
 exact rule i j t t' s _ _ ⟨.bl (g i j),H,I,rfl,q⟩
def CDiv (i j:Int):Prop:=0<j/\j<1073741824
def CPow (i j:Int):Prop:=0<=j/\j<=1000000/\i.natAbs<2^64
def CMul (i j:Int):Prop:=(-(2^64)<i/\i<2^64)\/(-(2^64)<j/\j<2^64)
theorem CMul.ok {i j:Int} (h:CMul i j):IntMulOk i j:=by
 rcases h with⟨h1,h2⟩ | ⟨h1,h2⟩
 ·exact .of_left (intBits_le_64 h1 h2)
 ·exact .of_right (intBits_le_64 h1 h2)
theorem op_add:OpR X (binaryOp .Add) (rI0 fun i j=>.int (i+j)):=opI0 fun _ _ _ _ _ _ _ q=>add_int q
theorem op_sub:OpR X (binaryOp .Sub) (rI0 fun i j=>.int (i-j)):=opI0 fun _ _ _ _ _ _ _ q=>sub_int q
theorem op_mul:OpR X (binaryOp .Mult) (rI CMul fun i j=>.int (i*j)):=opI fun _ _ _ _ _ _ _ hc q=>mul_int q hc.ok
theorem op_fdiv:OpR X (binaryOp .FloorDiv) (rI CDiv fun i j=>.int (i/j)):=opI fun i j _ _ _ _ _ hc q=>by
 have h1:(0:Int)<j:=hc.1;have h2:j<1073741824:=hc.2;exact floordiv_int (by omega) (by rw [K5 i (by omega)];exact q) (.inl (PyProof.noPylong_small (by omega)))
theorem op_mod:OpR X (binaryOp .Mod) (rI (fun _ j=>0<j) fun i j=>.int (i%j)):=opI fun i j _ _ _ _ _ hc q=>by
 have h1:(0:Int)<j:=hc;exact mod_int' (by omega) (by rw [Qx i (by omega)];exact q)
theorem yiz:OpR X (binaryOp .Mod) (rI (fun _ j=>j≠0) fun i j=>.int (i.fmod j)):=opI fun _ _ _ _ _ _ _ hc q=>mod_int' hc q
theorem op_pow:OpR X (binaryOp .Pow) (rI CPow fun i j=>.int (i^j.toNat)):=opI fun _ _ _ _ _ _ _ hc q=>pow_int_small hc.1 hc.2.1 hc.2.2 q
theorem unI {f:Value->Sem Value} {g:Int->Int}
  (rule:∀ (i:Int) (t:Tok) (s:Shared) (Q:Value->Shared->Prop) (E:Value->Shared->Prop),Q (.int (g i) s.toks) {s with toks:=s.toks+1}->wpAny (model X.prog X.w) X.A (f (.int i t)) Q E s) :
  UnR X f (rU fun i=>.int (g i)):=by
 intro pins s σ H x v Q I rx h;refine xa h fun i qz1 q=>?_;clear h;subst qz1
 refine xb rx fun t qz1=>?_;clear rx;subst qz1
 exact rule i t s _ _ ⟨.int (g i),H,I.tok _,⟨_,rfl⟩,q⟩
theorem un_neg:UnR X (unaryOp .USub) (rU fun i=>.int (-i)):=unI fun _ _ _ _ _ q=>neg_int q
end
def scal:V->V->Bool
 | .non,.non=>true | .non,.int _=>true | .int _,.non=>true | .non,.bl _=>true | .bl _,.non=>true | .non,.str _=>true | .str _,.non=>true
 | .int _,.int _=>true | .bl _,.bl _=>true | .str _,.str _=>true | .byt _,.byt _=>true
 | .int _,.str _=>true | .str _,.int _=>true | .bl _,.str _=>true | .str _,.bl _=>true
 | _,_=>false
def rEq:R2:=fun x y H Q=>scal x y=true/\Q (.bl (decide (x=y))) H
def rNe:R2:=fun x y H Q=>scal x y=true/\Q (.bl (!decide (x=y))) H
theorem zlw {i j:Int}:decide (V.int i=V.int j)=(i == j):=by
 rw [Kw];simp
theorem zsn {i j:Bool}:decide (V.bl i=V.bl j)=(i == j):=by
 rw [Kw];simp
theorem zys {i j:Str}:decide (V.str i=V.str j)=(i == j):=by
 rw [Kw];simp
theorem zyt {i j:Array UInt8}:decide (V.byt i=V.byt j)=(i.toList == j.toList):=by
 rw [Kw];cases i;cases j;simp
section
variable {X:Cx} {a b c:Expr} {ta tb tc:TE} {pos:Pos}
theorem zad {pins:List (Addr×Obj)} {σ:St} {H:Hp} {s:Shared} {Q:VK} {k k':Bool} (I:Inv X pins σ H s) (q:Q (.bl k) H) (e:k=k'):EP X pins σ Q (.bool k') s:=by
 subst e;exact⟨.bl k,H,I,rfl,q⟩
theorem op_eq:OpR X (compareOp .Eq) rEq:=by
 intro pins s σ H x y v u Q I rx ry h;refine xg h fun hs q=>?_;clear h
 cases x with
 | non=>
  cases rx;cases y with
  | non=>cases ry;exact PySem.EqNone.eq_none_none (zad I q (by simp))
  | bl j=>cases ry;exact PySem.EqNone.eq_none_bool (zad I q (by simp))
  | int j=>refine xb ry fun t' qz1=>?_;clear ry;subst qz1;exact PySem.EqNone.eq_none_int (zad I q (by simp))
  | str j=>refine xb ry fun t' qz1=>?_;clear ry;subst qz1;exact PySem.EqNone.eq_none_str (zad I q (by simp))
  | _=>exact absurd (show false=true from hs) Z2
 | bl i=>
  cases rx;cases y with
  | non=>cases ry;exact PySem.EqNone.eq_bool_none (zad I q (by simp))
  | bl j=>cases ry;exact eq_bool (zad I q zsn)
  | str j=>refine xb ry fun t' qz1=>?_;clear ry;subst qz1;exact PySem.EqMixed.eq_bool_str (zad I q (by simp))
  | _=>exact absurd (show false=true from hs) Z2
 | int i=>
  refine xb rx fun t qz1=>?_;clear rx;subst qz1
  cases y with
  | non=>cases ry;exact PySem.EqNone.eq_int_none (zad I q (by simp))
  | int j=>refine xb ry fun t' qz1=>?_;clear ry;subst qz1;exact eq_int (zad I q zlw)
  | str j=>refine xb ry fun t' qz1=>?_;clear ry;subst qz1;exact PySem.EqMixed.eq_int_str (zad I q (by simp))
  | _=>exact absurd (show false=true from hs) Z2
 | str i=>
  refine xb rx fun t qz1=>?_;clear rx;subst qz1
  cases y with
  | non=>cases ry;exact PySem.EqNone.eq_str_none (zad I q (by simp))
  | bl j=>cases ry;exact PySem.EqMixed.eq_str_bool (zad I q (by simp))
  | int j=>refine xb ry fun t' qz1=>?_;clear ry;subst qz1;exact PySem.EqMixed.eq_str_int (zad I q (by simp))
  | str j=>refine xb ry fun t' qz1=>?_;clear ry;subst qz1;exact eq_str (zad I q zys)
  | _=>exact absurd (show false=true from hs) Z2
 | byt i=>
  refine xb rx fun t qz1=>?_;clear rx;subst qz1
  cases y with
  | byt j=>refine xb ry fun t' qz1=>?_;clear ry;subst qz1;exact PySem.W.eq_bytes (zad I q zyt)
  | _=>exact absurd (show false=true from hs) Z2
 | _=>cases y <;> exact absurd (show false=true from hs) Z2
theorem op_ne:OpR X (compareOp .NotEq) rNe:=by
 intro pins s σ H x y v u Q I rx ry h;refine xg h fun hs q=>?_;clear h
 cases x with
 | non=>
  cases rx;cases y with
  | non=>cases ry;exact PySem.EqNone.ne_none_none (zad I q (by simp))
  | bl j=>cases ry;exact PySem.EqNone.ne_none_bool (zad I q (by simp))
  | int j=>refine xb ry fun t' qz1=>?_;clear ry;subst qz1;exact PySem.EqNone.ne_none_int (zad I q (by simp))
  | str j=>refine xb ry fun t' qz1=>?_;clear ry;subst qz1;exact PySem.EqNone.ne_none_str (zad I q (by simp))
  | _=>exact absurd (show false=true from hs) Z2
 | bl i=>
  cases rx;cases y with
  | non=>cases ry;exact PySem.EqNone.ne_bool_none (zad I q (by simp))
  | bl j=>cases ry;exact ne_bool (zad I q (congrArg not zsn))
  | str j=>refine xb ry fun t' qz1=>?_;clear ry;subst qz1;exact PySem.EqMixed.ne_bool_str (zad I q (by simp))
  | _=>exact absurd (show false=true from hs) Z2
 | int i=>
  refine xb rx fun t qz1=>?_;clear rx;subst qz1
  cases y with
  | non=>cases ry;exact PySem.EqNone.ne_int_none (zad I q (by simp))
  | int j=>refine xb ry fun t' qz1=>?_;clear ry;subst qz1;exact ne_int (zad I q (congrArg not zlw))
  | str j=>refine xb ry fun t' qz1=>?_;clear ry;subst qz1;exact PySem.EqMixed.ne_int_str (zad I q (by simp))
  | _=>exact absurd (show false=true from hs) Z2
 | str i=>
  refine xb rx fun t qz1=>?_;clear rx;subst qz1
  cases y with
  | non=>cases ry;exact PySem.EqNone.ne_str_none (zad I q (by simp))
  | bl j=>cases ry;exact PySem.EqMixed.ne_str_bool (zad I q (by simp))
  | int j=>refine xb ry fun t' qz1=>?_;clear ry;subst qz1;exact PySem.EqMixed.ne_str_int (zad I q (by simp))
  | str j=>refine xb ry fun t' qz1=>?_;clear ry;subst qz1;exact ne_str (zad I q (congrArg not zys))
  | _=>exact absurd (show false=true from hs) Z2
 | byt i=>
  refine xb rx fun t qz1=>?_;clear rx;subst qz1
  cases y with
  | byt j=>refine xb ry fun t' qz1=>?_;clear ry;subst qz1;exact PySem.W.ne_bytes (zad I q (congrArg not zyt))
  | _=>exact absurd (show false=true from hs) Z2
 | _=>cases y <;> exact absurd (show false=true from hs) Z2
theorem op_lt:OpR X (compareOp .Lt) (rI0 fun i j=>.bl (decide (i<j))):=opB0 fun _ _ _ _ _ _ _ q=>lt_int q
theorem op_le:OpR X (compareOp .LtE) (rI0 fun i j=>.bl (decide (i<=j))):=opB0 fun _ _ _ _ _ _ _ q=>le_int q
theorem op_gt:OpR X (compareOp .Gt) (rI0 fun i j=>.bl (decide (j<i))):=opB0 fun _ _ _ _ _ _ _ q=>gt_int q
theorem op_ge:OpR X (compareOp .GtE) (rI0 fun i j=>.bl (decide (j<=i))):=opB0 fun _ _ _ _ _ _ _ q=>ge_int q
theorem op_isN:OpR X (compareOp .Is) (fun x y H Q=>y=.non/\Q (.bl (decide (x=.non))) H):=by
 intro pins s σ H x y v u Q I rx ry h;refine xg h fun qz0 q=>?_;clear h;subst qz0
 cases ry;refine is_none_gen (zad I q ?_);cases x <;> first
  | (cases rx;rfl)
  | (refine xb rx fun t qz1=>?_;clear rx;subst qz1;rfl)
theorem yiy:OpR X (compareOp .IsNot) (fun x y H Q=>y=.non/\Q (.bl (!decide (x=.non))) H):=by
 intro pins s σ H x y v u Q I rx ry h;refine xg h fun qz0 q=>?_;clear h;subst qz0
 cases ry;refine isnot_none_gen (zad I q ?_);cases x <;> first
  | (cases rx;rfl)
  | (refine xb rx fun t qz1=>?_;clear rx;subst qz1;rfl)
theorem yir {op:CmpOp} {r:R2} (ho:OpR X (compareOp op) r) (ha:PE X a ta) (hb:PE X b tb) (hm:behindInMarks op b=false):PE X (.Compare a [op] [b] pos) (tOp r ta tb):=by
 intro pins s σ H Q I h;exact wpAny_Compare1 (binT ha hb I h fun v u s2 x y H2 I2 rx ry q=>ho pins s2 σ H2 x y v u Q I2 rx ry q) hm
def tTest (t:TE):TT:=fun σ H Q=>t σ H fun x H'=>∃ k,x=.bl k/\Q k H'
theorem yik {op:CmpOp} {r:R2} (ho:OpR X (compareOp op) r) (ha:PE X a ta) (hb:PE X b tb) (hm:behindInMarks op b=false):PT X (.Compare a [op] [b] pos) (tTest (tOp r ta tb)):=by
 intro pins s σ H Q I h;refine wpAny_isTrue_Compare1 (thn (ha pins s σ H _ I h) fun v s1 hz=>xc hz fun x H1 I1 r1 q1=>thn (hb pins s1 σ H1 _ I1 q1) fun u s2 hz=>xc hz fun y H2 I2 r2 q2=>
  thn (ho pins s2 σ H2 x y v u _ I2 r1 r2 q2) fun c s3 hz=>vn hz fun z H3 I3 r3 k e q3=>?_) hm
 subst e;cases r3;exact Kq ⟨H3,I3,q3⟩
theorem zru:(sizeLine:Nat)<2^63:=by rw [Qp];decide
theorem zsx {x:V} {us:List Value} (r:Vals [x] us):∃ u,us=[u]/\RelV x u:=by
 cases r with
 | cons r1 r2=>cases r2;exact⟨_,rfl,r1⟩
theorem ygw {x y:V} {us:List Value} (r:Vals [x,y] us):∃ u w',us=[u,w']/\RelV x u/\RelV y w':=by
 cases r with
 | cons r1 r2=>
  cases r2 with
  | cons r3 r4=>cases r4;exact⟨_,_,rfl,r1,r3⟩
theorem yea:zjq X (.builtin "abs") (fun xs H Q=>∃ i,xs=[.int i]/\Q (.int (if i<0 then -i else i)) H):=by
 intro pins s σ H xs us Q I r h;refine xa h fun i qz1 q=>?_;clear h;subst qz1
 refine vw (zsx r) fun u qz1 t qz3=>?_;subst qz1;subst qz3
 exact call_abs_int fun u tk=>⟨.int (if i<0 then -i else i),H,I.tok _,⟨_,rfl⟩,q⟩
theorem zza (hc:X.calm=true):zjq X (.builtin "max") (fun xs H Q=>∃ i j,xs=[.int i,.int j]/\Q (.int (if j > i then j else i)) H):=by
 intro pins s σ H xs us Q I r h;refine xj h fun i j qz2 q=>?_;clear h;subst qz2
 obtain⟨u,w',rfl,⟨t,rfl⟩,⟨t',rfl⟩⟩:=ygw r
 refine max_two_ints (I.ok.hd hc) fun h' tk k=>⟨_,H,I.kept k,?_,q⟩
 by_cases hj:j > i
 ·rw [if_pos hj,if_pos hj];exact⟨_,rfl⟩
 ·rw [if_neg hj,if_neg hj];exact⟨_,rfl⟩
theorem zyz (hc:X.calm=true):zjq X (.builtin "min") (fun xs H Q=>∃ i j,xs=[.int i,.int j]/\Q (.int (if j<i then j else i)) H):=by
 intro pins s σ H xs us Q I r h;refine xj h fun i j qz2 q=>?_;clear h;subst qz2
 obtain⟨u,w',rfl,⟨t,rfl⟩,⟨t',rfl⟩⟩:=ygw r
 refine min_two_ints (I.ok.hd hc) fun h' tk k=>⟨_,H,I.kept k,?_,q⟩
 by_cases hj:j<i
 ·rw [if_pos hj,if_pos hj];exact⟨_,rfl⟩
 ·rw [if_neg hj,if_neg hj];exact⟨_,rfl⟩
end
end L2
namespace L2
open PySem PySem.Spec PyProof.Rows
structure ObjM (h:Heap) (x dx C:Addr) (mA:Str->Option Value):Prop where
 obj:h.get? x=some (PySem.W.instObj C dx)
 ns:h.Ns1 dx mA
 ne:dx≠x
section
variable {prog:Program} {w:World} {A:Around} {E:Value->Shared->Prop} {s:Shared} {K:PySem.W.Frag} {x dx C f:Addr} {mA:Str->Option Value} {name:Str} {v:Value}
end
section
variable {P:Program} {w:World} {H H':Hp} {h h':Heap} {a C dx:Addr} {fs fs':List (Str×V)}
theorem ins_get (hok:HOk P w H h) (e:H a=some (.ins C dx fs)):∃ mA,ObjM h a dx C mA/\(∀ f,RelO (fs.lookup f) (mA f))/\PySem.Within mA (fs.map (·.1))/\fs.length<=1000/\H dx=some (.own a):=by
 obtain⟨d,z,ne,ob,mA,n,r,q⟩:=(show ObjOk P w H h a (.ins C dx fs) from hok a _ e)
 exact⟨mA,⟨ob,n,ne⟩,r,q,z,d⟩
end
section
variable {X:Cx} {pins:List (Addr×Obj)} {σ:St} {H:Hp} {s:Shared} {a C dx:Addr} {fs:List (Str×V)} {f:Str} {v:V} {A:Around} {E:Value->Shared->Prop}
end
section
variable {X:Cx} {o e value:Expr} {f:Str} {pos pos' tpos:Pos} {ta tv:TE}
end
section
variable {X:Cx} {pins:List (Addr×Obj)} {σ:St} {H:Hp} {s:Shared} {A:Around} {E:Value->Shared->Prop} {Q:Value->Shared->Prop} {c:Value} {b:Bool}
end
end L2
namespace L2
open PySem PySem.Spec PyProof.Rows
structure Room (k:Nat) (A:Around):Prop where
 hd:A.handled=none
 dp:A.depth+3*k+5<recursionLimit
 un:A.units+16*k+200<cLine
theorem Room.mono {j k:Nat} {A:Around} (r:Room k A) (h:j<=k):Room j A:=⟨r.hd,by have:=r.dp;omega,by have:=r.un;omega⟩
theorem Room.deeper {k:Nat} {A:Around} (r:Room (k+1) A) (env:Env):Room k (A.deeper env):=
 ⟨r.hd,by have:=r.dp;show A.depth+1+3*k+5<_;omega,by have:=r.un;show A.units+3+16*k+200<_;omega⟩
theorem Room.depth {k:Nat} {A:Around} (r:Room k A):A.depth<recursionLimit:=by have:=r.dp;omega
theorem Room.units {k:Nat} {A:Around} (r:Room k A):A.units+64<cLine:=by have:=r.un;omega
def tNil:TA:=fun _ H Q=>Q [] H
def tCons (ta:TE) (tr:TA):TA:=fun σ H Q=>ta σ H fun x H1=>tr σ H1 fun xs H2=>Q (x::xs) H2
section
variable {X:Cx} {e:Expr} {es:List Expr} {te:TE} {t:TA} {pos:Pos}
theorem zwp:PA X [] tNil:=fun _ _ _ _ H Q I h=>U5 ⟨[],H,I,.nil,h⟩
theorem zle (ha:PE X e te) (hr:PA X es t) (hs:starEach (e::es) X.env=(false,eval e X.env)::starEach es X.env:=by rfl):PA X (e::es) (tCons te t):=by
 intro pos pins s σ H Q I h;rw [hs];show wpAny _ _ (spliced ((false,eval e X.env)::backTo pos (starEach es X.env))) _ _ s;refine Uy (thn (ha pins s σ H _ I h) fun u s1 hz=>xc hz fun x H1 I1 r1 q1=>?_);exact thn (hr pos pins s1 σ H1 _ I1 q1) fun us s2 hz=>xc hz fun xs H2 I2 r2 q2=>⟨x::xs,H2,I2,.cons r1 r2,q2⟩
def tTup (t:TA):TE:=fun σ H Q=>t σ H fun xs H1=>xs.length<=sizeLine/\∀ p,H1 p=none->Q (.ref p) (upd H1 p (.tup xs))
def tLst (t:TA):TE:=fun σ H Q=>t σ H fun xs H1=>xs.length<=sizeLine/\∀ p,H1 p=none->Q (.ref p) (upd H1 p (.lst xs))
theorem pe_tup {x1} (h:PA X es t):PE X (.Tuple es x1 pos) (tTup t):=by
 intro pins s σ H Q I hq;refine wpAny_Tuple_spliced (thn (h pos pins s σ H _ I hq) fun us s1 hz=>xo hz fun xs H1 I1 r z q=>⟨by rw [<- r.length];exact z,?_⟩);have hf:H1 s1.heap.objs.size=none:=I1.hok.fresh (Zg _);refine⟨.ref s1.heap.objs.size,upd H1 s1.heap.objs.size (.tup xs),I1.laid (t':=s1.toks) (fun b u e=>Zh _ e) (Zg _) ?_,rfl,q _ hf⟩
 exact⟨z,us,r,⟨_,Z8 _ rfl,rfl,_,rfl⟩⟩
theorem pe_lst (h:PA X es t):PE X (.List es pos) (tLst t):=by
 intro pins s σ H Q I hq;refine wpAny_List_spliced (thn (h pos pins s σ H _ I hq) fun us s1 hz=>xo hz fun xs H1 I1 r z q=>⟨by rw [<- r.length];exact z,?_⟩);have hf:H1 s1.heap.objs.size=none:=I1.hok.fresh (Zg _);refine⟨.ref s1.heap.objs.size,upd H1 s1.heap.objs.size (.lst xs),I1.laid (t':=s1.toks) (fun b u e=>Zh _ e) (Zg _) ?_,rfl,q _ hf⟩
 exact⟨z,us,0,r,Z8 _ rfl⟩
end
abbrev Sp:=List V->Hp->VK->XK->Prop
abbrev CXT:=List Env->Hp->Shared->XK->Value->Shared->Prop
structure Env0 (P:Program) (w:World) (K:PySem.W.Frag) (mg:Str->Option Value) (base:Heap) (A:Around) (outer:List Env) (s:Shared) (H:Hp):Prop where
 frames:A.frames=some outer
 mod:Mod K mg base
 bs:∀ b o,base.get? b=some o->s.heap.get? b=some o/\H b=none
 bsz:base.objs.size<=s.heap.objs.size
 funs:s.heap.FunFrames base outer
 frf:∀ b∈frs outer,H b=none
 hok:HOk P w H s.heap
 bare:AllBare s.gens
def CE (outer:List Env) (P:Program) (w:World) (H:Hp) (s:Shared) (Q:VK) (u:Value) (s':Shared):Prop:=
 ∃ v H',s'.os=s.os/\AllBare s'.gens/\Un (frs outer) [] H H' s.heap s'.heap/\HOk P w H' s'.heap/\RelV v u/\Q v H'
def CR (CX:CXT) (outer:List Env) (P:Program) (w:World) (H:Hp) (s:Shared) (Q:VK) (E:XK) (r:Result) (s':Shared):Prop:=
 match r with
 | .ok (.ret u)=>CE outer P w H s Q u s'
 | .ok _=>False
 | .error e=>CX outer H s E e s'
structure FnOk (P:Program) (w:World) (K:PySem.W.Frag) (mg:Str->Option Value) (base:Heap) (CX:CXT) (k:Nat) (f:Addr) (fd:FuncData) (ps:List Str) (sp:Sp):Prop where
 len:∀ vs H Q E,sp vs H Q E->vs.length=ps.length
 run:∀ (A:Around) (outer:List Env) (s:Shared) (H:Hp) (args:Args) (us:List Value) (vs:List V) (Q:VK) (E:XK),Room k A->Env0 P w K mg base A outer s H->BindsTo s fd args (ps.zip us)->Vals vs us->sp vs H Q E ->
  codeAny (model P w) A (.call (.ref f) args) (CR CX outer P w H s Q E) s
theorem FnOk.mono {P:Program} {w:World} {K:PySem.W.Frag} {mg:Str->Option Value} {base:Heap} {CX:CXT} {j k:Nat} {f:Addr} {fd:FuncData} {ps:List Str} {sp:Sp} (F:FnOk P w K mg base CX j f fd ps sp) (h:j<=k) :
  FnOk P w K mg base CX k f fd ps sp:=⟨F.len,fun A outer s H args us vs Q E hr=>F.run A outer s H args us vs Q E (hr.mono h)⟩
theorem FnOk.imp {P:Program} {w:World} {K:PySem.W.Frag} {mg:Str->Option Value} {base:Heap} {CX:CXT} {k:Nat} {f:Addr} {fd:FuncData} {ps:List Str} {sp sp':Sp} (F:FnOk P w K mg base CX k f fd ps sp)
  (h:∀ vs H Q E,sp' vs H Q E->sp vs H Q E):FnOk P w K mg base CX k f fd ps sp':=
 ⟨fun vs H Q E q=>F.len vs H Q E (h _ _ _ _ q),fun A outer s H args us vs Q E hr he hb hv hs=>F.run A outer s H args us vs Q E hr he hb hv (h _ _ _ _ hs)⟩
section
variable {X:Cx} {pins:List (Addr×Obj)} {σ:St} {H:Hp} {s s':Shared}
theorem Inv.env0 (I:Inv X pins σ H s):Env0 X.prog X.w X.K X.mg X.base X.A X.stack s H:=
 ⟨I.ok.frames,I.ok.mod,I.bs,Yn I.ok.bsz I.sz,I.stack,I.stkFree,I.hok,I.bare⟩
theorem Inv.after {Q:VK} {u:Value} (I:Inv X pins σ H s) (h:CE X.stack X.prog X.w H s Q u s'):EP X pins σ Q u s':=by
 refine xB h fun v H' os bare un hok r q=>?_;clear h
 obtain⟨hh,g,d,t,os'⟩:=s'
 obtain rfl:os'=s.os:=os;exact⟨v,H',I.call (h':=hh) (g':=g) (d':=d) (t':=t) (ch:=[]) un hok bare (fun b z=>absurd z (by simp)),r,q⟩
end
def tCall (sp:Sp) (dvs:List V) (E:XK) (t:TA):TE:=fun σ H Q=>t σ H fun vs H1=>sp (vs++dvs) H1 Q E
def Binds (K:PySem.W.Frag) (fd:FuncData) (ps:List Str) (ds:List Value):Prop:=
 ∀ (s:Shared) (us:List Value),K.In s.heap->(us++ds).length=ps.length->BindsTo s fd ⟨us,[]⟩ (ps.zip (us++ds))
theorem Binds.all {K:PySem.W.Frag} {fd:FuncData} {ps:List Str} (h:∀ us:List Value,us.length=ps.length->bindArgs fd ⟨us,[]⟩=pure (ps.zip us)):Binds K fd ps []:=fun s us _ hl=>by
 rw [W5] at hl |-;exact .of_eq (h us hl)
def yag (CX:CXT) (X:Cx) (E:XK):Prop:=∀ (pins:List (Addr×Obj)) (σ:St) (H:Hp) (s:Shared) (e:Value) (s':Shared),Inv X pins σ H s->CX X.stack H s E e s'->X.xe e s'
section
variable {X:Cx} {CX:CXT} {k:Nat} {f C:Addr} {fd:FuncData} {ps:List Str} {sp:Sp} {dvs:List V} {ds:List Value} {E:XK} {x m:Str} {p pos apos:Pos} {e o:Expr} {es:List Expr} {ta:TE} {t:TA}
theorem run_fn {pins:List (Addr×Obj)} {σ:St} {H:Hp} {s:Shared} {Q:VK} {us:List Value} {vs:List V} (F:FnOk X.prog X.w X.K X.mg X.base CX k f fd ps sp) (hr:Room k X.A) (hb:Binds X.K fd ps ds) (hd:Vals dvs ds) (hx:yag CX X E)
  (I:Inv X pins σ H s) (r:Vals vs us) (h:sp (vs++dvs) H Q E):wpAny (model X.prog X.w) X.A (call (.ref f) us) (EP X pins σ Q) X.xe s:=by
 have r2:Vals (vs++dvs) (us++ds):=r.append hd;have hl:(us++ds).length=ps.length:=by rw [<- r2.length];exact F.len _ _ _ _ h
 refine wpAny_call (Uu (F.run X.A X.stack s H ⟨us,[]⟩ (us++ds) (vs++dvs) Q E hr I.env0 (hb s us I.kIn hl) r2 h) fun r s' hq=>?_);cases r with
 | error e=>exact hx pins σ H s e s' I hq
 | ok fl=>
  cases fl with
  | ret u=>exact I.after hq
  | next=>exact False.elim hq
  | brk=>exact False.elim hq
  | cont=>exact False.elim hq
theorem yis (F:FnOk X.prog X.w X.K X.mg X.base CX k f fd ps sp) (hr:Room k X.A) (hg:Gl X x) (hm:X.mg x=some (.ref f)) (hk:PySem.W.keepIn X.K (.ref f)=true) (hb:Binds X.K fd ps ds) (hd:Vals dvs ds) (hx:yag CX X E)
  (ha:PA X (e::es) t) (hdb:(x == ("__debug__" : Str))=false:=by decide) (he:starEach (e::es) X.env=(false,eval e X.env)::starEach es X.env:=by rfl) (hpl:(backTo pos (starEach es X.env)).any (·.1)=false:=by rfl) :
  PE X (.Call (.Name x p) (e::es) [] pos) (tCall sp dvs E t):=by
 intro pins s σ H Q I h;refine Qg (yjq I hg hm ?_ hdb);refine PySem.W.callWith_K (h₀:=X.base) I.ok.mod.kin hk (thn (ha pos pins s σ H _ I h) fun us s1 hz=>xc hz fun vs H1 I1 r q=>⟨I1.kIn,?_⟩) he hpl;exact run_fn F hr hb hd hx I1 r q
end
section
variable {X:Cx} {CX:CXT} {k:Nat} {f C:Addr} {fd:FuncData} {ps ks:List Str} {sp:Sp} {E:XK} {x m:Str} {p pos apos kpos:Pos} {e o:Expr} {es:List Expr} {kws:List Keyword} {te ta:TE} {t tk:TA} {nm:Option Str}
variable {g:List Value->List Value->List Value} {gV:List V->List V->List V}
end
structure FnScope (N P:List Str) (sc:Scope):Prop where
 kind:sc.kind=.function
 co:sc.isCoroutine=false
 gen:sc.isGenerator=false
 nd:N.Nodup
 pre:N.take P.length=P
 par:∀ x∈P,sc.names.lookup x=some .local\/sc.names.lookup x=some .cell
 nofree:∀ y∈sc.names,y.2 ≠ .free
theorem zok {kindOf:Str->Option NameKind} {x:Str}:∀ {binds:List (Str×Value)} {m:Str->Option Value},(∀ v,(x,v)∉binds)->bindL kindOf binds m x=m x
 | [],_,_=>rfl
 | (n,v)::r,m,h=>by
  unfold bindL;rw [zok fun w hw=>h w (Yo _ hw)];split
  ·have:x≠n:=by rintro rfl;exact h v Wf
   simp [this]
  ·rfl
theorem zom {kindOf:Str->Option NameKind} {x:Str}:∀ {binds:List (Str×Value)} {m:Str->Option Value},(∀ v,(x,v)∉binds)->bindC kindOf binds m x=m x
 | [],_,_=>rfl
 | (n,v)::r,m,h=>by
  unfold bindC;rw [zom fun w hw=>h w (Yo _ hw)];split
  ·rfl
  ·have:x≠n:=by rintro rfl;exact h v Wf
   simp [this]
theorem zol {kindOf:Str->Option NameKind} {x:Str} {v:Value}:∀ {P:List Str} {vs:List Value} {i:Nat} {m:Str->Option Value},P.Nodup->P[i]? = some x->vs[i]? = some v->kindOf x=some .local ->
  bindL kindOf (P.zip vs) m x=some v
 | [],_,_,_,_,h,_,_=>by simp at h
 | _::_,[],_,_,_,_,h,_=>by simp at h
 | p::P,w::vs,0,m,nd,h1,h2,hk=>by
  simp at h1 h2;subst h1;subst h2
  show bindL kindOf ((p,w)::P.zip vs) m p=_;unfold bindL;rw [zok fun v hv=>(Wg.mp nd).1 (Vm hv).1,if_pos hk];simp
 | p::P,w::vs,i+1,m,nd,h1,h2,hk=>by
  show bindL kindOf ((p,w)::P.zip vs) m x=_;unfold bindL;exact zol (i:=i) (Wg.mp nd).2 (by simpa using h1) (by simpa using h2) hk
theorem zon {kindOf:Str->Option NameKind} {x:Str} {v:Value}:∀ {P:List Str} {vs:List Value} {i:Nat} {m:Str->Option Value},P.Nodup->P[i]? = some x->vs[i]? = some v->kindOf x≠some .local ->
  bindC kindOf (P.zip vs) m x=some v
 | [],_,_,_,_,h,_,_=>by simp at h
 | _::_,[],_,_,_,_,h,_=>by simp at h
 | p::P,w::vs,0,m,nd,h1,h2,hk=>by
  simp at h1 h2;subst h1;subst h2
  show bindC kindOf ((p,w)::P.zip vs) m p=_;unfold bindC;rw [zom fun v hv=>(Wg.mp nd).1 (Vm hv).1,if_neg hk];simp
 | p::P,w::vs,i+1,m,nd,h1,h2,hk=>by
  show bindC kindOf ((p,w)::P.zip vs) m x=_;unfold bindC;exact zon (i:=i) (Wg.mp nd).2 (by simpa using h1) (by simpa using h2) hk
def start (N:List Str) (vs:List V):St:=vs.map some++List.replicate (N.length-vs.length) none
def cxOf (CX:CXT) (P:Program) (w:World) (K:PySem.W.Frag) (mg:Str->Option Value) (base:Heap) (N:List Str) (qual:Str) (scope:Scope) (f:Addr) (cd:Value) (A:Around) (outer:List Env) (s:Shared) (H:Hp) (E:XK):Cx where
 prog:=P
 w:=w
 K:=K
 mg:=mg
 base:=base
 A:=A.deeper (envOfC qual scope s.heap.objs.size f cd)
 N:=N
 s₀:=s
 H₀:=H
 env:=envOfC qual scope s.heap.objs.size f cd
 outer:=outer
 stack:=envOfC qual scope s.heap.objs.size f cd::outer
 ex:=[]
 calm:=true
 fn:=fun _=>true
 pn:=[]
 xe:=fun e s'=>wpAny (model P w) (A.deeper (envOfC qual scope s.heap.objs.size f cd)) (leaving (envOfC qual scope s.heap.objs.size f cd) e) (fun _ s''=>CX outer H s E e s'') (fun e' s''=>CX outer H s E e' s'') s'
theorem zsp {sc:Scope} {n:Nat} {x:Str} (h:sc.names.lookup x=some .cell):∃ c,(cellsFrom n sc.names []).lookup x=some c:=by
 have q:=Vx sc.names n [] (.inl h);exact Option.isSome_iff_exists.mp q
theorem zxy {CX:CXT} {P:Program} {w:World} {K:PySem.W.Frag} {mg:Str->Option Value} {base:Heap} {N ps:List Str} {qual:Str} {scope:Scope} {f:Addr} {cd:Value} {A:Around} {outer:List Env} {s s1:Shared} {H:Hp} {E:XK} {us:List Value} {vs:List V}
  (S:FnScope N ps scope) (hd:A.handled=none) (e0:Env0 P w K mg base A outer s H) (hl:vs.length=ps.length) (r:Vals vs us)
  (x:InCallC s s.heap.objs.size (bindL (envOfC qual scope s.heap.objs.size f cd).kindOf (ps.zip us) fun _=>none) (cellsFrom (s.heap.objs.size+1) scope.names []) (bindC (envOfC qual scope s.heap.objs.size f cd).kindOf (ps.zip us) fun _=>none) s1) :
  Inv (cxOf CX P w K mg base N qual scope f cd A outer s H E) [] (start N vs) H s1:=by
 have hpl:ps.length<=N.length:=by have:=congrArg List.length S.pre;rw [W9] at this;omega
 refine xj x.done fun h1 tk qz2 hk=>?_;subst qz2
 have noA:∀ b:Addr,b∉(cxOf CX P w K mg base N qual scope f cd A outer s H E).ex:=fun b z=>absurd (show b∈([]:List Addr) from z) (by simp)
 refine⟨⟨e0.mod,S.kind,rfl,rfl,Zg _,fun y z c h1 h2=>?_,fun y hy=>?_,fun y c _ h=>?_,fun _=>hd,Around.frames_deeper e0.frames,.inr ⟨rfl,rfl⟩,fun b z=>absurd z (noA b),e0.bs,e0.bsz,fun b _ _=>noA b,fun b z=>absurd z (noA b),e0.funs,e0.frf⟩,
  rfl,e0.bare,Un.kept hk,⟨_,x.toInCall.ns,fun i y v h1 h2 h3=>?_⟩,fun y c h=>⟨_,x.cell y c h⟩,e0.hok.fresh (Zg _),fun y c h=>?_,fun p hp=>absurd (show p∈([]:List (Addr×Obj)) from hp) (by simp),e0.hok.kept hk,?_⟩
 ·exact name_of_addr x.apart (Q5 h1) (Q5 h2)
 ·have hy:scope.names.lookup y=some .cell\/scope.names.lookup y=some .free:=hy;rcases hy with hy | hy
  ·exact zsp hy
  ·exact absurd rfl (S.nofree _ (Q5 hy))
 ·exact Q8 (x.above y c (Q5 h))
 ·have hi:i<vs.length:=by
   unfold start at h2;by_cases hi:i<vs.length
   ·exact hi
   ·rw [Zx (by simpa using hi)] at h2;rw [Qm] at h2;split at h2 <;> cases h2
  have ha:vs[i]? = some v:=by
   unfold start at h2;rw [Z4 (by simpa using hi),Zj] at h2;cases e:vs[i]? with
   | none=>rw [e] at h2;cases h2
   | some a=>rw [e] at h2;cases h2;rfl
  refine xa (r.get ha) fun u hu rv=>?_;have hp:ps[i]? = some y:=by
   rw [<- S.pre,Jh (by omega)];exact h1
  have ndP:ps.Nodup:=by rw [<- S.pre];exact S.nd.sublist (List.take_sublist _ _)
  refine⟨u,rv,?_⟩
  rcases S.par y (Zw hp) with k | k
  ·exact .inl ⟨k,zol ndP hp hu k⟩
  ·refine xb (zsp (n:=s.heap.objs.size+1) k) fun c e=>?_;refine .inr ⟨.inl k,c,e,?_⟩;have q:=x.cell y c e;rw [zon ndP hp hu (by show scope.names.lookup y≠_;rw [k];decide)] at q;exact q
 ·exact e0.hok.fresh (Q8 (x.above y c (Q5 h)))
 ·unfold start;show _=N.length;rw [Zs,Zd,Wc];omega
theorem fn_of {CX:CXT} {P:Program} {w:World} {K:PySem.W.Frag} {mg:Str->Option Value} {base:Heap} {k:Nat} {f:Addr} {name qual:Str} {params:Arguments} {body:List Stmt} {scope:Scope} {dV kV doc pm cdv ct oc:Value} {an od:Option Addr}
  {osl:Array (Option Value)} {N ps:List Str} {sp:Sp} (lk:K.lookup f=some ⟨oc,od,.func (PySem.W.fnOf name qual params body scope dV kV doc pm an cdv ct),osl⟩) (hcd:PySem.W.codeIn K cdv qual=true) (S:FnScope N ps scope)
  (len:∀ vs H Q E,sp vs H Q E->vs.length=ps.length)
  (hbody:∀ (A:Around) (outer:List Env) (s:Shared) (H:Hp) (vs:List V) (Q:VK) (E:XK),Room k (A.deeper (envOfC qual scope s.heap.objs.size f cdv))->sp vs H Q E ->
   ∃ t,PSs (cxOf CX P w K mg base N qual scope f cdv A outer s H E) body t/\t {nx:=fun _ H'=>Q .non H',rt:=Q} (start N vs) H) :
  FnOk P w K mg base CX (k+1) f (PySem.W.fnOf name qual params body scope dV kV doc pm an cdv ct) ps sp:=by
 refine⟨len,fun A outer s H args us vs Q E hr e0 hb r hsp=>?_⟩
 have hl:=len _ _ _ _ hsp;have KX:K.In s.heap:=e0.mod.kin.keeps fun b o e=>(e0.bs b o e).1
 have lim:s.heap.NoLimit:=e0.mod.nolimit.keeps fun b o e=>(e0.bs b o e).1
 have hkind:∀ y∈ps.zip us,scope.names.lookup y.1=some .local\/(scope.names.lookup y.1=some .cell/\((cellsFrom (s.heap.objs.size+1) scope.names []).lookup y.1).isSome=true):=fun⟨n,v⟩ hy=>by
  rcases S.par n (Vm hy).1 with q | q
  ·exact .inl q
  ·exact .inr ⟨q,Vx _ _ _ (.inl q)⟩
 refine codeAny_call_function hr.depth (KX _ _ lk) rfl S.co S.gen rfl (PySem.W.codeRec_of KX hcd) (hb _ _ _ _ ?_);refine wpAny_newFunctionEnv_cells S.kind hkind fun env he s1 x=>?_;subst he;refine⟨lim.keeps x.toInCall.keep,codeAny_func ?_⟩
 refine xa (hbody A outer s H vs Q E (hr.deeper _) hsp) fun t ht hq=>?_;have I:Inv (cxOf CX P w K mg base N qual scope f cdv A outer s H E) [] (start N vs) H s1:=zxy S hr.hd e0 hl r x;refine K7 (ht [] s1 (start N vs) H _ I hq) (fun fl s' hs=>?_) fun e s' hs=>hs
 have fin:∀ {σ':St} {H':Hp} {v:V} {u:Value},Inv (cxOf CX P w K mg base N qual scope f cdv A outer s H E) [] σ' H' s'->RelV v u->Q v H'->CE outer P w H s Q u s':=
  fun {σ' H' v u} J rv q=>⟨v,H',J.os,J.bare,J.base,J.hok,rv,q⟩
 cases fl with
 | ret u=>
  refine xE hs fun v σ' H' J rv q=>?_;clear hs
  exact fin J rv q
 | next=>
  refine xj hs fun σ' H' J q=>?_;clear hs
  exact fin (v:=V.non) (u:=Value.none) J rfl q
 | brk=>
  refine xj hs fun _ _ _ q=>?_;clear hs
  exact False.elim q
 | cont=>
  refine xj hs fun _ _ _ q=>?_;clear hs
  exact False.elim q
end L2
namespace L2
open PySem PySem.Spec PyProof.Rows
section
variable {X:Cx} {x:Str} {p pos:Pos} {e:Expr} {es:List Expr} {t:TA} {id T:String} {r:List V->Hp->VK->Prop}
def tCB (r:List V->Hp->VK->Prop) (t:TA):TE:=fun σ H Q=>t σ H fun vs H1=>r vs H1 Q
theorem zri (hc:zjq X (.builtin id) r) (hg:Gl X x) (hm:X.mg x=none) (hv:bootBuiltins x=some (.builtin id)) (ha:PA X (e::es) t) (hn:x ≠ "__name__" := by decide) (hdb:(x == ("__debug__" : Str))=false:=by decide)
  (he:starEach (e::es) X.env=(false,eval e X.env)::starEach es X.env:=by rfl) (hpl:(backTo pos (starEach es X.env)).any (·.1)=false:=by rfl):PE X (.Call (.Name x p) (e::es) [] pos) (tCB r t):=by
 intro pins s σ H Q I h;refine Qg (zfe I hg hm hv ?_ hn hdb);exact Ue (thn (ha pos pins s σ H _ I h) fun us s1 hz=>xc hz fun vs H1 I1 r1 q1=>hc pins s1 σ H1 vs us Q I1 r1 q1) he hpl
theorem zwo (hc:zjq X (.type T) r) (hg:Gl X x) (hm:X.mg x=none) (hv:bootBuiltins x=some (.type T)) (ha:PA X (e::es) t) (hn:x ≠ "__name__" := by decide) (hdb:(x == ("__debug__" : Str))=false:=by decide)
  (he:starEach (e::es) X.env=(false,eval e X.env)::starEach es X.env:=by rfl) (hpl:(backTo pos (starEach es X.env)).any (·.1)=false:=by rfl):PE X (.Call (.Name x p) (e::es) [] pos) (tCB r t):=by
 intro pins s σ H Q I h;refine Qg (zfe I hg hm hv ?_ hn hdb);exact Wl (thn (ha pos pins s σ H _ I h) fun us s1 hz=>xc hz fun vs H1 I1 r1 q1=>hc pins s1 σ H1 vs us Q I1 r1 q1) he hpl
end
end L2
namespace HT
open PySem PyProof.Rows
section
open PySem.SeqAt
open PySem.AutoSeq1 (wpAny_loadPart')
open PySem.MeetsSeq PySem.MeetsSeq2 PySem.MeetsSeq3
end
section
variable {prog:Program} {w:World} {A:Around} {E:Value->Shared->Prop} {s:Shared}
def sIx (n d:Nat):Option Int->Nat
 | none=>d
 | some v=>if v<0 then (v+(n:Int)).toNat else min v.toNat n
theorem sIx_none (n d:Nat):sIx n d none=d:=rfl
theorem sIx_nat (n d k:Nat):sIx n d (some (k:Int))=min k n:=by
 show (if (k:Int)<0 then ((k:Int)+(n:Int)).toNat else min (k:Int).toNat n)=min k n;rw [if_neg (by omega),Kk]
end
end HT
namespace L2
open PySem PySem.Spec PyProof.Rows
abbrev TO:=St->Hp->(Option Int->Hp->Prop)->Prop
def PO (X:Cx) (e:Option Expr) (t:TO):Prop:=
 ∀ (pins:List (Addr×Obj)) (s:Shared) (σ:St) (H:Hp) (Q:Option Int->Hp->Prop),Inv X pins σ H s->t σ H Q ->
  wpAny (model X.prog X.w) X.A (evalPart e X.env) (fun u s'=>∃ o H',Inv X pins σ H' s'/\IsPart u o/\Q o H') X.xe s
def yhi:TO:=fun _ H Q=>Q none H
def tPart (t:TE):TO:=fun σ H Q=>t σ H fun x H1=>∃ i,x=.int i/\Q (some i) H1
section
variable {X:Cx} {e:Expr} {te:TE} {lo hi:Option Expr} {tl th:TO} {pos p2:Pos}
theorem yio:PO X none yhi:=by
 intro pins s σ H Q I h;rw [evalPart_none];exact Zi ⟨none,H,I,.none,h⟩
theorem yin (h:PE X e te):PO X (some e) (tPart te):=by
 intro pins s σ H Q I hw;rw [evalPart_some];refine thn (h pins s σ H _ I hw) fun u s1 hz=>xc hz fun x H1 I1 r1 q1=>?_
 refine xa q1 fun i qz1 q=>?_;clear q1;subst qz1
 refine xb r1 fun t qz1=>?_;clear r1;subst qz1
 exact⟨some i,H1,I1,.int i t,q⟩
def SlR (X:Cx) (r:V->Option Int->Option Int->Hp->VK->Prop):Prop:=
 ∀ (pins:List (Addr×Obj)) (s:Shared) (σ:St) (H:Hp) (x:V) (v vl vu:Value) (lo hi:Option Int) (sl:Addr) (Q:VK),Inv X pins σ H s->RelV x v->s.heap.IsSliceOf sl vl vu .none->IsPart vl lo->IsPart vu hi->r x lo hi H Q ->
  ∃ T id,typeLookup (.type T) "__getitem__" = pure (some (.builtin id))/\s.TypeIs v T/\wpAny (model X.prog X.w) X.A (getItem v (.ref sl)) (EP X pins σ Q) X.xe s
def tSl (r:V->Option Int->Option Int->Hp->VK->Prop) (te:TE) (tl th:TO):TE:=fun σ H Q=>te σ H fun x H1=>tl σ H1 fun l H2=>th σ H2 fun u H3=>r x l u H3 Q
theorem yci {r:V->Option Int->Option Int->Hp->VK->Prop} (hr:SlR X r) (he:PE X e te) (hl:PO X lo tl) (hu:PO X hi th):PE X (.Subscript e (.Slice lo hi none p2) pos) (tSl r te tl th):=by
 intro pins s σ H Q I h;refine Subscript_ (thn (he pins s σ H _ I h) fun v s1 hz=>xc hz fun x H1 I1 r1 q1=>?_);refine wpAny_Slice (thn (hl pins s1 σ H1 _ I1 q1) fun vl s2 hz=>xc hz fun l H2 I2 pl q2=>thn (hu pins s2 σ H2 _ I2 q2) fun vu s3 hz=>xc hz fun u H3 I3 pu q3=>?_);rw [evalPart_none];refine Zi ?_;have I4:Inv X pins σ H3 {s3 with heap:=s3.heap.push {cls:=.type "slice", data:=.fields #[vl,vu,.none]} }:=I3.kept (t':=s3.toks) fun b ob q=>Zh _ q
 refine xc (hr pins {s3 with heap:=s3.heap.push {cls:=.type "slice", data:=.fields #[vl,vu,.none]} } σ H3 x v vl vu l u s3.heap.objs.size Q I4 r1 (Heap.IsSliceOf.new ..) pl pu q3) fun T id hT ht hg=>?_;show wpAny (model X.prog X.w) X.A (subscriptTail e (.Slice lo hi none p2) v (.ref s3.heap.objs.size)) (EP X pins σ Q) X.xe {s3 with heap:=s3.heap.push {cls:=.type "slice", data:=.fields #[vl,vu,.none]} };exact tail_any (ops:=[.ref s3.heap.objs.size,v]) ht hT hg (by with_unfolding_all rfl)
def cutV (xs:List V) (lo hi:Option Int):List V:=(xs.drop (HT.sIx xs.length 0 lo)).take (HT.sIx xs.length xs.length hi-HT.sIx xs.length 0 lo)
theorem zpw (xs:List V) (lo hi:Option Int):(cutV xs lo hi).length<=xs.length:=by
 unfold cutV;rw [W9,Yr];omega
end
end L2
namespace L2
open PySem PySem.Spec PyProof.Rows
def ixN (n:Nat) (i:Int):Option Nat:=if 0<=i then (if i<n then some i.toNat else none) else if -(n:Int)<=i then some (i+n).toNat else none
def atI {α:Type} (xs:List α) (i:Int):Option α:=(ixN xs.length i).bind fun j=>xs[j]?
theorem zxx {n:Nat} {i:Int} {j:Nat} (h:ixN n i=some j):seqIndex? i n=some j/\j<n /\ -(n:Int)<=i/\i<n:=by
 unfold ixN at h;by_cases h0:0<=i
 ·rw [if_pos h0] at h;by_cases h1:i<n
  ·rw [if_pos h1] at h;have e:i.toNat=j:=Ye h;exact⟨by rw [seqIndex_of h0 h1,e],by omega,by omega,h1⟩
  ·rw [if_neg h1] at h;cases h
 ·rw [if_neg h0] at h;by_cases h1 : -(n:Int)<=i
  ·rw [if_pos h1] at h;have e:(i+n).toNat=j:=Ye h;exact⟨by rw [Bk (by omega) h1,e],by omega,h1,by omega⟩
  ·rw [if_neg h1] at h;cases h
theorem zzu {α:Type} {xs:List α} {i:Int} {v:α} (h:atI xs i=some v):∃ j,seqIndex? i xs.length=some j/\xs[j]? = some v/\j<xs.length /\ -(xs.length:Int)<=i/\i<xs.length:=by
 unfold atI at h;cases e:ixN xs.length i with
 | none=>rw [e] at h;cases h
 | some j=>
  rw [e] at h;refine xk (zxx e) fun h1 h2 h3 h4=>?_;exact⟨j,h1,h,h2,h3,h4⟩
theorem atI_nat {α:Type} {xs:List α} {j:Nat} {v:α} (h:xs[j]? = some v):atI xs (j:Int)=some v:=by
 have hj:j<xs.length:=(Zn.mp h).1;have e:ixN xs.length (j:Int)=some j:=by
  unfold ixN;rw [if_pos (by omega),if_pos (by omega)];simp
 unfold atI;rw [e];exact h
def yaf (b:Expr):Prop:=∀ o i,subscripted b false o i=operate [o,i] (getItem o i)
def IxR (X:Cx) (r:R2):Prop:=
 ∀ (value slice:Expr) (pins:List (Addr×Obj)) (s:Shared) (σ:St) (H:Hp) (x y:V) (v u:Value) (Q:VK),Inv X pins σ H s->RelV x v->RelV y u->r x y H Q ->
  subscripted slice false v u=operate [v,u] (getItem v u)->wpAny (model X.prog X.w) X.A (subscriptTail value slice v u) (EP X pins σ Q) X.xe s
def MtR (X:Cx) (id:String) (r:V->List V->Hp->VK->Prop):Prop:=
 ∀ (pins:List (Addr×Obj)) (s:Shared) (σ:St) (H:Hp) (x:V) (xs:List V) (v:Value) (us:List Value) (Q:VK),Inv X pins σ H s->RelV x v->Vals xs us->r x xs H Q ->
  wpAny (model X.prog X.w) X.A (call (.builtin id) (v::us)) (EP X pins σ Q) X.xe s
section
variable {X:Cx} {a b:Expr} {ta tb:TE} {pos:Pos}
theorem pe_ix {r:R2} (hr:IxR X r) (ha:PE X a ta) (hb:PE X b tb) (hs:yaf b):PE X (.Subscript a b pos) (tOp r ta tb):=by
 intro pins s σ H Q I h;exact Subscript_ (binT ha hb I h fun v u s2 x y H2 I2 rx ry q=>hr a b pins s2 σ H2 x y v u Q I2 rx ry q (hs _ _))
def rIxL (K:PySem.W.Frag):R2:=fun x y H Q=>∃ p xs i v,x=.ref p/\y=.int i/\SqL K H p xs/\atI xs i=some v/\Q v H
def rIxT (K:PySem.W.Frag):R2:=fun x y H Q=>∃ p xs i v,x=.ref p/\y=.int i/\SqT K H p xs/\atI xs i=some v/\Q v H
theorem yjt:IxR X (rIxL X.K):=by
 intro value slice pins s σ H x y v u Q I rx ry h hs;refine xC h fun p xs i z qz4 qz5 hq he q=>?_;clear h;subst qz4;subst qz5
 cases rx;refine xb ry fun t qz1=>?_;clear ry;subst qz1
 refine xh (I.list hq) fun its r pl hz=>?_;refine xw (zzu he) fun j h1 h2 h3 h4 h5=>?_;refine xa (r.get h2) fun w ew rw'=>?_;have hl:=r.length;have hn:=zru;have fin:EP X pins σ Q w s:=⟨z,H,I,rw',q⟩;by_cases h0:0<=i
 ·have hj:i.toNat=j:=by
   rw [seqIndex_of h0 h5] at h1;exact Ye h1
  exact item_listR pl.isList h0 (by omega) (by rw [hj];simpa using ew) fin hs
 ·have hj:(i+(its.toArray.size:Int)).toNat=j:=by
   rw [Bk (by omega) h4] at h1;rw [Zv,<- hl];exact Ye h1
  exact G8 (x:=w) pl.isList.typeIs slot_list_getitem.lookup
   (wpAny_getItem_list_neg (Q:=fun r s'=>r=w/\EP X pins σ Q r s') pl.isList (by omega) (by rw [Zv] <;> omega) (by omega) (by rw [hj];simpa using ew) ⟨rfl,fin⟩) hs
theorem ix_tup:IxR X (rIxT X.K):=by
 intro value slice pins s σ H x y v u Q I rx ry h hs;refine xC h fun p xs i z qz4 qz5 hq he q=>?_;clear h;subst qz4;subst qz5
 cases rx;refine xb ry fun t qz1=>?_;clear ry;subst qz1
 refine xh (I.tuple hq) fun its r pl hz=>?_;refine xw (zzu he) fun j h1 h2 h3 h4 h5=>?_;refine xa (r.get h2) fun w ew rw'=>?_;have hl:=r.length;have hn:=zru;have fin:EP X pins σ Q w s:=⟨z,H,I,rw',q⟩;exact G8 (x:=w) pl.typeIs slot_tuple_getitem.lookup
  (getItem_tuple (j:=j) (Q:=fun r s'=>r=w/\EP X pins σ Q r s') pl (by omega) (by omega) (by rw [Zv,<- hl];exact h1) (by simpa using ew) ⟨rfl,fin⟩) hs
theorem ztv (its:List Value) (n j:Nat) (u:Value):Obj.mapSeq (·.setIfInBounds j u) {cls:=.type "list", data:=.seq its.toArray n}={cls:=.type "list", data:=.seq (its.set j u).toArray n}:=by
 simp [Obj.mapSeq]
theorem Inv.lst {pins:List (Addr×Obj)} {σ:St} {H:Hp} {s:Shared} {p:Addr} {xs:List V} (I:Inv X pins σ H s) (h:H p=some (.lst xs)) :
  ∃ (its:List Value) (n:Nat),Vals xs its/\s.heap.get? p=some {cls:=.type "list", data:=.seq its.toArray n}/\xs.length<=sizeLine:=by
 refine xx (I.hok p _ h) fun z its n r e=>?_;exact⟨its,n,r,e,z⟩
theorem Inv.lstUpd {pins:List (Addr×Obj)} {σ:St} {H:Hp} {s:Shared} {p:Addr} {xs ys:List V} {its its':List Value} {n n':Nat} {f:Obj->Obj} (I:Inv X pins σ H s) (h:H p=some (.lst xs))
  (ho:s.heap.get? p=some {cls:=.type "list", data:=.seq its.toArray n}) (hf:f {cls:=.type "list", data:=.seq its.toArray n}={cls:=.type "list", data:=.seq its'.toArray n'}) (r:Vals ys its') (hz:ys.length<=sizeLine) (t:Nat) :
  Inv X pins σ (upd H p (.lst ys)) {s with heap:=s.heap.update p f,toks:=t}:=by
 have e:(s.heap.update p f).get? p=some {cls:=.type "list", data:=.seq its'.toArray n'}:=by
  rw [Yk f ho (by rw [hf] <;> rfl),hf]
 refine I.write (x:=p) (e:=p) (by rw [h];trivial) (.inl rfl) (fun b u hb q=>(Yu _ _ (Wk hb)).trans q) ⟨_,e⟩ ?_;exact⟨hz,its',n',r,e⟩
def rSetL:V->V->V->Hp->(Hp->Prop)->Prop:=fun o i v H Q=>∃ p xs k j,o=.ref p/\i=.int k/\H p=some (.lst xs)/\ixN xs.length k=some j/\Q (upd H p (.lst (xs.set j v)))
theorem ybo:PSet X rSetL:=by
 intro pins s σ H o i v ov iv u Q I ro ri rv h;refine xC h fun p xs k j qz4 qz5 hp hj q=>?_;clear h;subst qz4;subst qz5
 cases ro;refine xb ri fun t qz1=>?_;clear ri;subst qz1
 refine xc (I.lst hp) fun its n r ho hz=>?_;refine xk (zxx hj) fun h1 h2 h3 h4=>?_;have hl:=r.length;have hn:=zru;have I':Inv X pins σ (upd H p (.lst (xs.set j v))) {s with heap:=s.heap.update p (Obj.mapSeq (·.setIfInBounds j u))}:=
  I.lstUpd hp ho (ztv its n j u) (r.set rv j) (by rw [Wh];exact hz) s.toks
 by_cases h0:0<=k
 ·have hk:k.toNat=j:=by
   rw [seqIndex_of h0 h4] at h1;exact Ye h1
  exact PySem.W.ki_setAt ho h0 (by omega) (by rw [Zv,<- hl];exact h4) (by rw [hk];exact⟨_,I',q⟩)
 ·have hk:(k+(its.toArray.size:Int)).toNat=j:=by
   rw [Bk (by omega) h3] at h1;rw [Zv,<- hl];exact Ye h1
  exact PySem.W.ki_setBack ho (by omega) (by rw [Zv,<- hl];exact h3) (by omega) (by rw [hk];exact⟨_,I',q⟩)
theorem znb (lo hi:Option Int) (n:Nat):(sliceBounds lo hi none n).1=((HT.sIx n 0 lo:Nat):Int)/\(sliceBounds lo hi none n).2.1=((HT.sIx n n hi:Nat):Int)/\(sliceBounds lo hi none n).2.2=1:=by
 refine⟨?_,?_,rfl⟩
 ·cases lo with
  | none=>simp [sliceBounds,HT.sIx]
  | some i=>
   simp only [sliceBounds,HT.sIx,G3,show (1:Int) > 0 by decide,if_true];by_cases h:i<0
   ·simp only [h,if_true] <;> omega
   ·simp only [h,if_false] <;> omega
 ·cases hi with
  | none=>simp [sliceBounds,HT.sIx]
  | some i=>
   simp only [sliceBounds,HT.sIx,G3,show (1:Int) > 0 by decide,if_true];by_cases h:i<0
   ·simp only [h,if_true] <;> omega
   ·simp only [h,if_false] <;> omega
theorem zkt (its:List Value) (lo hi:Option Int):slicePick its.toArray lo hi none=((its.drop (HT.sIx its.length 0 lo)).take (HT.sIx its.length its.length hi-HT.sIx its.length 0 lo)).toArray:=by
 refine xi (znb lo hi its.toArray.size) fun h1 h2 h3=>?_;unfold slicePick;rw [h1,h2,h3];simp only [sliceRange_one,pick_run,Zv] <;> rfl
def rSlL (K:PySem.W.Frag):V->Option Int->Option Int->Hp->VK->Prop:=fun x lo hi H Q=>∃ a xs,x=.ref a/\SqL K H a xs/\∀ p,H p=none->Q (.ref p) (upd H p (.lst (cutV xs lo hi)))
theorem yhr:SlR X (rSlL X.K):=by
 intro pins s σ H x v vl vu lo hi sl Q I rx hs pl pu h;refine xc h fun a xs qz2 hx q=>?_;clear h;subst qz2
 cases rx;refine xh (I.list hx) fun its r ht hz=>?_;have hlen:=r.length;refine⟨"list", _,slot_list_getitem.lookup,ht.isList.typeIs,?_⟩
 refine wpAny_getItem_list_slice ht.isList hs pl pu .none (by simp) ?_ (by rw [Zv] <;> omega);rw [zkt,<- hlen];refine⟨.ref s.heap.objs.size,_,I.laid (t':=s.toks) (o:=.lst (cutV xs lo hi)) (fun b ob q=>Zh _ q) (Zg _) ?_,rfl,q _ (I.hok.fresh (Zg _))⟩
 exact⟨Yn (zpw xs lo hi) hz,_,0,(r.drop (HT.sIx xs.length 0 lo)).take (HT.sIx xs.length xs.length hi-HT.sIx xs.length 0 lo),Z8 _ rfl⟩
theorem zgq:zjq X (.builtin "len") (fun xs H Q=>∃ p ys,xs=[.ref p]/\(SqL X.K H p ys\/SqT X.K H p ys)/\Q (.int ys.length) H):=by
 intro pins s σ H xs us Q I r h;refine xc h fun p ys qz2 hq q=>?_;clear h;subst qz2
 refine xa (zsx r) fun u qz1 rx=>?_;subst qz1
 cases rx;have hn:=zru;rcases hq with hq | hq
 ·refine xh (I.list hq) fun its r' pl hz=>?_;have hlen:=r'.length;exact Calls.call_len_list pl.isList (by simp only [Zv] <;> omega) ⟨.int ys.length,H,I.tok _,⟨s.toks+1,by rw [Zv,hlen]⟩,q⟩
 ·refine xh (I.tuple hq) fun its r' pl hz=>?_;have hlen:=r'.length;exact len_tuple pl (by simp only [Zv] <;> omega) ⟨.int ys.length,H,I.tok _,⟨s.toks+1,by rw [Zv,hlen]⟩,q⟩
theorem zgp:zjq X (.type "list") (fun xs H Q=>∃ p ys,xs=[.ref p]/\(SqL X.K H p ys\/SqT X.K H p ys)/\∀ l,H l=none->Q (.ref l) (upd H l (.lst ys))):=by
 intro pins s σ H xs us Q I r h;refine xc h fun p ys qz2 hq q=>?_;clear h;subst qz2
 refine xa (zsx r) fun u qz1 rx=>?_;subst qz1
 cases rx;have fin:∀ (its:List Value),Vals ys its->ys.length<=sizeLine->∀ (h':Heap) (c':Nat),(∀ b o',s.heap.get? b=some o'->h'.get? b=some o') ->
   h'.get? s.heap.objs.size=some {cls:=.type "list", dict:=none,data:=.seq its.toArray c',slots:=#[]}->EP X pins σ Q (.ref s.heap.objs.size) {s with heap:=h'}:=fun its r' hz h' c' kp e=>
  ⟨.ref s.heap.objs.size,_,I.laid (t':=s.toks) kp (Zg _) (show ObjOk X.prog X.w _ h' _ (.lst ys) from⟨hz,its,c',r',e⟩),rfl,q _ (I.hok.fresh (Zg _))⟩
 rcases hq with hq | hq
 ·refine xh (I.list hq) fun its r' pl hz=>?_;have hlen:=r'.length;refine xH pl.isList fun o ho hc n hd=>?_;exact call_list_seq p (.inl rfl) ho hc hd (fun h' c' kp e=>fin its r' hz h' c' kp e) (by simp only [Zv] <;> omega)
 ·refine xh (I.tuple hq) fun its r' pl hz=>?_;have hlen:=r'.length;refine xH pl fun o ho hc n hd=>?_;clear pl
  exact call_list_seq p (.inr rfl) ho hc hd (fun h' c' kp e=>fin its r' hz h' c' kp e) (by simp only [Zv] <;> omega)
theorem zma:zjq X (.type "tuple") (fun xs H Q=>∃ p ys,xs=[.ref p]/\((SqL X.K H p ys/\∀ l,H l=none->Q (.ref l) (upd H l (.tup ys)))\/(SqT X.K H p ys/\Q (.ref p) H))):=by
 intro pins s σ H xs us Q I r h;obtain⟨p,ys,rfl,h⟩:=h
 obtain⟨u,rfl,rx⟩:=zsx r
 cases rx;rcases h with⟨hq,q⟩ | ⟨hq,q⟩
 ·obtain⟨its,r',pl,hz⟩:=I.list hq
  have hlen:=r'.length;refine call_tuple_list pl.isList (fun h' kp=>?_) (by simp only [Zv] <;> omega);have I1:Inv X pins σ H {s with heap:=h'}:=I.kept (t':=s.toks) kp;have I2:Inv X pins σ (upd H h'.objs.size (.tup ys)) {s with heap:=h'.push {cls:=.type "tuple", data:=.seq its.toArray} }:=
   I1.laid (t':=s.toks) (fun b o e=>Zh _ e) (Zg _) (show ObjOk X.prog X.w _ _ _ (.tup ys) from⟨hz,its,r',IsTup.new _ _⟩)
  exact⟨.ref h'.objs.size,_,I2,rfl,q _ (I1.hok.fresh (Zg _))⟩
 ·obtain⟨its,r',pl,hz⟩:=I.tuple hq
  exact call_tuple_same pl ⟨.ref p,H,I,rfl,q⟩
def tyV (K:PySem.W.Frag) (T:String) (x:V) (H:Hp):Prop:=match x with
 | .str _=>T = "str"
 | .int _=>T = "int"
 | .ref p=>(T = "list" /\ ∃ xs,SqL K H p xs)\/(T = "tuple" /\ ∃ o,K.lookup p=some o/\o.cls=.type "tuple" /\ o.dict=none) \/
   (T = "dict" /\ ((∃ kvs,H p=some (.dK kvs))\/∃ kvs,H p=some (.dT kvs)))\/(T = "set" /\ ∃ S n,H p=some (.set S n))
 | _=>False
theorem yfb {pins:List (Addr×Obj)} {σ:St} {H:Hp} {s:Shared} {T:String} {x:V} {v:Value} (I:Inv X pins σ H s) (r:RelV x v) (ty:tyV X.K T x H) :
  s.TypeIs v T/\∀ a,v=.ref a->∃ ob,s.heap.get? a=some ob/\ob.dict=none:=by
 cases x with
 | str z=>
  refine xb r fun t qz1=>?_;clear r;subst qz1
  cases (show T = "str" from ty)
  exact⟨typeIs_str s z t,fun _ e=>nomatch e⟩
 | int i=>
  refine xb r fun t qz1=>?_;clear r;subst qz1
  cases (show T = "int" from ty)
  exact⟨typeIs_int s i t,fun _ e=>nomatch e⟩
 | ref p=>
  cases r;rcases ty with⟨rfl,xs,hq⟩ | ⟨rfl,o,hk,hc,hd⟩ | ⟨rfl,hk⟩ | ⟨rfl,S,n,hk⟩
  ·refine xh (I.list hq) fun its _ pl _=>?_;refine⟨pl.isList.typeIs,fun a e=>?_⟩
   cases e;refine xo pl fun o n e c hd _=>?_;clear pl
   exact⟨o,e,hd⟩
  ·refine⟨⟨o,I.kIn p o hk,hc⟩,fun a e=>?_⟩
   cases e;exact⟨o,I.kIn _ o hk,hd⟩
  ·have z:∃ o,s.heap.get? p=some o/\o.ExactDict:=by
    rcases hk with⟨kvs,hk⟩ | ⟨kvs,hk⟩
    ·obtain⟨_,_,_,_,o,_,_,e,ex,_⟩:=I.hok p _ hk
     exact⟨o,e,ex⟩
    ·obtain⟨_,_,_,_,o,_,_,e,ex,_⟩:=I.hok p _ hk
     exact⟨o,e,ex⟩
   refine xa z fun o e ex=>?_;clear z
   refine⟨⟨o,e,ex.1⟩,fun a e2=>?_⟩
   cases e2;exact⟨o,e,ex.2.1⟩
  ·refine vo (I.hok p _ hk) fun o _ _ _ e ex _=>?_;refine⟨⟨o,e,ex.1⟩,fun a e2=>?_⟩
   cases e2;exact⟨o,e,ex.2.1⟩
 | _=>exact False.elim ty
def tBM0 (K:PySem.W.Frag) (T:String) (r:V->List V->Hp->VK->Prop) (to:TE):TE:=fun σ H Q=>to σ H fun x H1=>tyV K T x H1/\r x [] H1 Q
def tBM (K:PySem.W.Frag) (T:String) (r:V->List V->Hp->VK->Prop) (to:TE) (t:TA):TE:=fun σ H Q=>to σ H fun x H1=>tyV K T x H1/\t σ H1 fun xs H2=>r x xs H2 Q
variable {o e:Expr} {es:List Expr} {to:TE} {t:TA} {name:Str} {apos cpos:Pos} {T id:String} {r:V->List V->Hp->VK->Prop}
theorem yfn (pa:PlainAttrs T) (slot:Slot T name id) (hty:typeOf (.builtin id)=pure (.type "method_descriptor")) (hm:MtR X id r) (ho:PE X o to)
  (hbase:attributeBase o name X.env (eval o X.env)=eval o X.env:=by rfl) (hline:(apos.endLine == cpos.line)=true:=by rfl):PE X (.Call (.Attribute o name apos) [] [] cpos) (tBM0 X.K T r to):=by
 intro pins s σ H Q I h;refine wpAny_Call_method0_late hbase hline (thn (ho pins s σ H _ I h) fun v s1 hz=>xo hz fun x H1 I1 r1 ty q1=>?_);refine xg (yfb I1 r1 ty) fun h1 h2=>?_;exact⟨T,id,pa,slot,hty,h1,h2,V8 rfl (PySem.evalArgs_none (hm pins s1 σ H1 x [] v [] Q I1 r1 .nil q1))⟩
theorem pe_bm (pa:PlainAttrs T) (slot:Slot T name id) (hty:typeOf (.builtin id)=pure (.type "method_descriptor")) (hm:MtR X id r) (ho:PE X o to) (ha:PA X (e::es) t)
  (hbase:attributeBase o name X.env (eval o X.env)=eval o X.env:=by rfl)
  (hfew:((backTo cpos (starEach (e::es) X.env)).all (fun x=>!x.1) && (backToKw cpos (keywordEach [] X.env)).all (fun x=>x.1.isSome)
   && decide ((e::es).length+([]:List Keyword).length+(if ([]:List Keyword).isEmpty then 0 else 1)<30))=true:=by rfl)
  (hline:(apos.endLine == cpos.line)=true:=by rfl) (hs:starEach (e::es) X.env=(false,eval e X.env)::starEach es X.env:=by rfl) (hplain:(backTo cpos (starEach es X.env)).any (·.1)=false:=by rfl) :
  PE X (.Call (.Attribute o name apos) (e::es) [] cpos) (tBM X.K T r to t):=by
 intro pins s σ H Q I h;refine wpAny_Call_method_late hbase hfew hline rfl (thn (ho pins s σ H _ I h) fun v s1 hz=>xo hz fun x H1 I1 r1 ty q1=>?_);refine xg (yfb I1 r1 ty) fun h1 h2=>?_;refine⟨T,id,pa,slot,hty,h1,h2,?_⟩
 have hA:=ha cpos pins s1 σ H1 _ I1 q1;rw [hs] at hA |-;refine V8 (by show (false || (backTo cpos (starEach es X.env)).any (·.1))=false;rw [hplain] <;> rfl) (Calls.evalArgs_plain ?_);exact thn hA fun us s2 hz=>xc hz fun vs H2 I2 r2 q2=>hm pins s2 σ H2 x vs v us Q I2 r1 r2 q2
end
end L2
namespace L2
open PySem PySem.Spec PyProof.Rows
def MtM (X:Cx) (id:String) (r:V->List V->Hp->VK->Prop):Prop:=
 ∀ (pins:List (Addr×Obj)) (s:Shared) (σ:St) (H:Hp) (x:V) (xs:List V) (v:Value) (us:List Value) (Q:VK),Inv X pins σ H s->RelV x v->Vals xs us->r x xs H Q ->
  wpAny (model X.prog X.w) X.A (call (.builtin id) (v::us)) (EP X pins σ Q) X.xe s
theorem Vals.one:∀ {x:V} {us:List Value},Vals [x] us->∃ u,us=[u]/\RelV x u:=fun h=>by
 cases h with
 | cons r t=>cases t;exact⟨_,rfl,r⟩
theorem Vals.zero:∀ {us:List Value},Vals [] us->us=[]
 | _,.nil=>rfl
theorem Vals.dropLast {xs:List V} {us:List Value} (h:Vals xs us):Vals xs.dropLast us.dropLast:=by
 induction h with
 | nil=>exact .nil
 | cons r t ih=>
  cases t with
  | nil=>exact .nil
  | cons q t'=>exact .cons r ih
theorem Vals.reverse {xs:List V} {us:List Value} (h:Vals xs us):Vals xs.reverse us.reverse:=by
 induction h with
 | nil=>exact .nil
 | cons r t ih=>rw [We,We];exact Vals.append ih (.cons r .nil)
theorem zuc {α:Type} (l:List α):l.eraseIdx (l.length-1)=l.dropLast:=by
 induction l with
 | nil=>rfl
 | cons a r ih=>
  cases r with
  | nil=>rfl
  | cons b r=>
   have e:(a::b::r).length-1=((b::r).length-1)+1:=by
    have h1:(a::b::r).length=r.length+2:=rfl;have h2:(b::r).length=r.length+1:=rfl;omega
   rw [e,V7,ih]
   all_goals rfl
section
variable {X:Cx} {pins:List (Addr×Obj)} {σ:St} {H:Hp} {s:Shared} {l b:Addr} {xs ys zs:List V}
theorem Inv.lset {its its':List Value} {n:Nat} {f:Array Value->Array Value} {t':Nat} (I:Inv X pins σ H s) (hH:H l=some (.lst xs))
  (e:s.heap.get? l=some {cls:=.type "list", data:=.seq its.toArray n}) (hf:f its.toArray=its'.toArray) (hv:Vals ys its') (hz:ys.length<=sizeLine) :
  Inv X pins σ (upd H l (.lst ys)) {s with heap:=s.heap.update l (Obj.mapSeq f),toks:=t'}:=by
 have q:=PySem.IsL.update e f;rw [hf] at q;refine I.write (x:=l) (e:=l) (by rw [hH];exact trivial) (.inl rfl) (fun b' u hb hu=>(Yu s.heap (Obj.mapSeq f) (Wk hb)).trans hu) ⟨_,q⟩ ?_;exact⟨hz,its',_,hv,q⟩
theorem Inv.lnew {its:List Value} {t':Nat} (I:Inv X pins σ H s) (hv:Vals ys its) (hz:ys.length<=sizeLine) :
  Inv X pins σ (upd H s.heap.objs.size (.lst ys)) {s with heap:=s.heap.push {cls:=.type "list", data:=.seq its.toArray},toks:=t'}:=
 I.laid (fun _ _ q=>Zh _ q) (Zg _) ⟨hz,its,0,hv,Z8 _ rfl⟩
theorem Inv.fresh (I:Inv X pins σ H s):H s.heap.objs.size=none:=I.hok.fresh (Zg _)
theorem Inv.lstM (I:Inv X pins σ H s) (hH:H l=some (.lst xs)):xs.length<=sizeLine/\∃ (its:List Value) (n:Nat),Vals xs its/\xs.length=its.length/\s.heap.get? l=some {cls:=.type "list", data:=.seq its.toArray n}:=by
 refine xx (I.hok l _ hH) fun z its n r e=>?_;exact⟨z,its,n,r,r.length,e⟩
end
section
variable {X:Cx}
def yig:V->List V->Hp->VK->Prop:=fun x vs H Q=>∃ l xs y,x=.ref l/\vs=[y]/\H l=some (.lst xs)/\xs.length<sizeLine/\Q .non (upd H l (.lst (xs++[y])))
theorem znt:MtM X "list.append" yig:=by
 intro pins s σ H x vs v us Q I rx rv h;refine xz h fun l xs y qz3 qz4 hH hz q=>?_;clear h;subst qz3;subst qz4
 cases rx;refine xa rv.one fun u qz1 ru=>?_;subst qz1
 refine xy (I.lstM hH) fun z its n r hl e=>?_;refine call_meets F.slot_list_append ⟨_,e,rfl⟩ F.entry_list_append (F.args_list_append_2 _ _) (PySem.list_append l its.toArray n u (by rw [Zv];omega)) ⟨e,?_⟩;refine⟨.non,_,I.lset (its':=its++[u]) hH e (by simp) (r.append (.cons ru .nil)) ?_,rfl,q⟩
 rw [Zs,Gi];omega
def rPop:V->List V->Hp->VK->Prop:=fun x vs H Q=>∃ l xs y,x=.ref l/\vs=[]/\H l=some (.lst xs)/\xs[xs.length-1]? = some y/\Q y (upd H l (.lst xs.dropLast))
theorem mt_pop:MtM X "list.pop" rPop:=by
 intro pins s σ H x vs v us Q I rx rv h;refine xz h fun l xs y qz3 qz4 hH hy q=>?_;clear h;subst qz3;subst qz4
 cases rx;have hus:=rv.zero;subst hus;refine xy (I.lstM hH) fun z its n r hl e=>?_;refine xa (r.get hy) fun u hu ru=>?_;have hy':its.toArray[its.toArray.size-1]? = some u:=by
  show its.toArray[its.length-1]? = some u;rw [<- Zy,<- hl];exact hu
 refine call_meets F.slot_list_pop ⟨_,e,rfl⟩ F.entry_list_pop (F.args_list_pop_1 _) (MeetsSeq.list_pop_last l its.toArray n u hy' (by rw [Zv];omega)) ⟨e,?_⟩;refine⟨y,_,I.lset (its':=its.dropLast) hH e ?_ r.dropLast ?_,ru,q⟩
 ·show its.toArray.eraseIdxIfInBounds (its.toArray.size-1)=its.dropLast.toArray;rw [Zv,List.eraseIdxIfInBounds_toArray,zuc]
 ·rw [W2];omega
def rClear:V->List V->Hp->VK->Prop:=fun x vs H Q=>∃ l xs,x=.ref l/\vs=[]/\H l=some (.lst xs)/\Q .non (upd H l (.lst []))
theorem ycs:MtM X "list.clear" rClear:=by
 intro pins s σ H x vs v us Q I rx rv h;refine xo h fun l xs qz2 qz3 hH q=>?_;clear h;subst qz2;subst qz3
 cases rx;have hus:=rv.zero;subst hus;refine xy (I.lstM hH) fun z its n r hl e=>?_;refine call_meets F.slot_list_clear ⟨_,e,rfl⟩ F.entry_list_clear (F.args_list_clear_1 _) (AutoSeq1.list_clear_list_0 l its.toArray n (by rw [Zv];omega)) ⟨e,?_⟩;exact⟨.non,_,I.lset (its':=[]) (ys:=[]) hH e rfl .nil (Yc _),rfl,q⟩
end
section
variable {prog:Program} {w:World} {A:Around} {E:Value->Shared->Prop} {s:Shared}
end
section
variable {X:Cx}
end
end L2
namespace Att
open PySem PySem.W PySem.Calls PyProof.Rows
theorem ziq {P:Params} {h:Heap}:∀ (ns:List Int) (vs:List Value),WellAll P h vs (ns.map WData.int)->IntsAre vs ns:=by
 intro ns;induction ns with
 | nil=>
  intro vs w;rw [W3] at w;cases w;exact .nil
 | cons n ns ih=>
  intro vs w;rw [Zz] at w;cases w with
  | cons a b=>
   cases a;exact .cons _ _ (ih _ b)
theorem zvy {l:OpenLaw} {n:Nat} (hn:l.most=some n) {P:Params} {h:Heap} {args:List WData} {vals:List Value}
  (hpre:l.row.toRowW.claim.pre args=true) (hwl:WellAll P h vals args) :
  ∃ a vs ns,vals=[Value.ref a]/\args=[WData.list (ns.map WData.int)]/\h.get? a=some {cls:=.type "list", data:=.seq vs.toArray}/\IntsAre vs ns/\ns.length<=n:=by
 have hsh:WShape.hasAll [] args [.list .int]=true:=(pre_splitW hpre).1;have hc:l.pre.holds [] {args:=args}=true:=(pre_splitW hpre).2;refine xc (hasAllW_cons hsh) fun d r qz2 h1 h2=>?_;subst qz2
 obtain rfl:=hasAllW_nil h2;refine xa (hasW_list h1) fun xs qz1 h3=>?_;subst qz1
 refine xb (items_int h3) fun ns qz1=>?_;subst qz1
 have hlen:ns.length<=n:=by
  unfold OpenLaw.pre at hc;have h4:(WTm.not (.lt (.lit (.int (n:Int))) (.len (.arg 0)))).holds [] {args:=[.list (ns.map .int)]}=true:=by
   have h4:=(holds_andW hc).1;rw [hn] at h4;exact h4
  have h5:=condW_of h4 (w_not (w_lt w_lit (w_len_list (w_arg rfl))));rw [Zd] at h5;refine Nat.le_of_not_lt fun q=>?_;have q':(n:Int)<((ns.length:Nat):Int):=by omega
  first
   | (rw [decide_eq_true q'] at h5;exact absurd h5 (by decide))
   | (simp at h5;omega)
 cases hwl with
 | cons w1 w2=>
  cases w2;cases w1 with
  | list ho hall=>exact⟨_,_,ns,rfl,rfl,ho,ziq ns _ hall,hlen⟩
theorem zwf (l:OpenLaw) (args:List WData):l.row.toRowW.claim.post args (.bool true) args=true:=
 postW_of (r:=l.row.toRowW) (X:=(true == true))
  (show WShape.has [] (.bool true) .bool=true by first | rfl | decide | simp [WShape.has,WShape.arms,WShape.armsAll])
  (show (WTm.eq .res (.lit (.bool true))).value [] {args:=args,res:=some (.bool true),after:=args}=some (.bool (true == true)) from w_eq_bool (w_res rfl) w_lit) rfl
theorem attach_call {l:OpenLaw} {n:Nat} {q:Program} {loose:List Str} {XP:(Str->Option Value)->Heap->Prop} {YP:World->Heap->Prop} {d:DefRec}
  (hn:l.most=some n) (hdf:d.params.defaults=[])
  (call:∀ (w:World) (s₀ s₁:Shared) (mg mb:Str->Option Value) (fa:Addr) (o:Obj) (pm cd doc:Value) (a:Addr) (vs:List Value) (ns:List Int),
   Ground q loose [] XP w s₀ mg mb s₁.heap->YP w s₁.heap ->
   s₁.heap.get? fa=some o->o.data=.func (docDef d.name d.params d.body d.scope pm cd doc)->s₁.heap.CodeRec cd d.name->mg d.name=some (.ref fa) ->
   s₁.heap.get? a=some {cls:=.type "list", data:=.seq vs.toArray}->IntsAre vs ns->ns.length<=n->s₁.gens = #[] ->
   codeAny (model l.prog w) callerA (.call (.ref fa) ⟨[.ref a],[]⟩) (fun r s'=>r=.ok (.ret (.bool true))/\OldK s₁.heap s'.heap/\s'.os=s₁.os/\AllBare s'.gens) s₁) :
  WalkO q loose XP YP l.row.toRowW d [] (fun f vs=>PySem.call f vs):=by
 intro w s₀ s₁ mg mb G Y fa o pm cd doc dV kV ho hd hcd hD hmg hg args vals as hpre hlay hrd hwl hlo;obtain rfl:dV=.none:=Dflts.none hD hdf;obtain rfl:kV=.none:=Dflts.noKw hD;refine xz (zvy hn hpre hwl) fun a vs ns qz3 qz4 hobj hints hlen=>?_;subst qz3;subst qz4
 refine enter_call (Uu (call w s₀ s₁ mg mb fa o pm cd doc a vs ns G Y ho (fd_plain hd) hcd hmg hobj hints hlen hg) fun r s' hq=>?_);refine xk hq fun qz0 h2 h3 h4=>?_;clear hq;subst qz0
 exact⟨.inl ⟨.bool true,.bool true,[],rfl,fun _=>rfl,.bool true,zwf l _,fun _=>⟨List.Pairwise.nil,fun _ hm=>(nomatch hm)⟩⟩,h2,h3,h4⟩
section
variable {prog:Program} {w:World} {A:Around} {E:Value->Shared->Prop} {s:Shared} {K:Frag}
end
end Att
namespace L2
open PySem PySem.Spec PyProof.Rows
theorem zmo:∀ {vs:List Value} {ns:List Int},IntsAre vs ns->Vals (ns.map V.int) vs
 | _,_,.nil=>.nil
 | _,_,.cons n t h=>.cons ⟨t,rfl⟩ (zmo h)
def Only (H:Hp):Prop:=∀ b,H b=none\/∃ o xs,H b=some (.frz o (.lst xs))
theorem ydd {P:Program} {w:World} {K:PySem.W.Frag} {mg mb:Str->Option Value} {CX:CXT} {k:Nat} {fa a:Addr} {fd:FuncData} {x:Str} {sp:Sp} {s₁:Shared} {vs:List Value} {ns:List Int}
  (KX:K.In s₁.heap) (hns:s₁.heap.Ns mainGlobals mg) (hb:s₁.heap.Ns builtinsNs mb) (hbb:∀ x:Str,x ≠ "__name__" -> mb x=bootBuiltins x) (hlim:s₁.heap.NoLimit) (hg:s₁.gens = #[])
  (ha:s₁.heap.get? a=some {cls:=.type "list", data:=.seq vs.toArray}) (hi:IntsAre vs ns) (hl:ns.length<=sizeLine) (hr:Room k callerA)
  (F:∀ base:Heap,K.In base->base.Ns mainGlobals mg->FnOk P w K mg base CX k fa fd [x] sp) (hbind:∀ (s:Shared) (u:Value),BindsTo s fd ⟨[u],[]⟩ [(x,u)])
  (hsp:∀ H:Hp,Only H->SqL K H a (ns.map V.int)->sp [.ref a] H (fun v _=>v=.bl true) fun _ _ _=>False)
  (hCX:∀ H e s',CX [] H s₁ (fun _ _ _=>False) e s'->False) :
  codeAny (model P w) callerA (.call (.ref fa) ⟨[.ref a],[]⟩) (fun r s'=>r=.ok (.ret (.bool true))/\OldK s₁.heap s'.heap/\s'.os=s₁.os/\AllBare s'.gens) s₁:=by
 have rv:=zmo hi;have lenV:=hi.length;have core:∀ H:Hp,Only H->SqL K H a (ns.map V.int)->HOk P w H s₁.heap->(∀ b,H b≠none->b=a)->(H a≠none->K.lookup a=none) ->
   codeAny (model P w) callerA (.call (.ref fa) ⟨[.ref a],[]⟩) (fun r s'=>r=.ok (.ret (.bool true))/\OldK s₁.heap s'.heap/\s'.os=s₁.os/\AllBare s'.gens) s₁:=by
  intro H hO hS hok hA hK;have base_of:∀ {b:Addr} {o:Obj},s₁.heap.get? b=some o->H b=none->(hidT s₁.heap H).get? b=some o:=fun e n=>ydk e n
  have noA:∀ {b:Addr} {o:Obj} {es:Array DictEntry} {ep:Nat},s₁.heap.get? b=some o->o.data=.dict es ep->H b=none:=fun {b o es ep} e d=>by
   cases q:H b with
   | none=>rfl
   | some u=>
    have e':b=a:=hA b (by rw [q];simp);subst e';rw [ha] at e;cases e;have d':Data.seq vs.toArray _=Data.dict es ep:=d;cases d'
  have nsK:∀ {b:Addr} {m:Str->Option Value},s₁.heap.Ns b m->(hidT s₁.heap H).Ns b m:=fun {b m} hz=>xE hz fun o es ep e d r=>⟨o,es,ep,base_of e (noA e d),d,r⟩
  have hKb:K.In (hidT s₁.heap H):=fun b o e=>base_of (KX b o e) (by
   cases q:H b with
   | none=>rfl
   | some u=>
    have e':b=a:=hA b (by rw [q];simp);subst e';rw [hK (by rw [q];simp)] at e;cases e)
  have hM:Mod K mg (hidT s₁.heap H):=⟨hKb,nsK hns,⟨mb,nsK hb,hbb⟩,let ⟨mc,h1,h2⟩:=hlim;⟨mc,nsK h1,h2⟩⟩;have e0:Env0 P w K mg (hidT s₁.heap H) callerA [] s₁ H:=⟨rfl,hM,fun b o e=>yjb e,Nat.le_of_eq (zxz _ _),trivial,fun b hb=>absurd (show b∈([]:List Addr) from hb) (by simp),hok,.of_eq hg⟩;refine Uu ((F _ hKb (nsK hns)).run callerA [] s₁ H ⟨[.ref a],[]⟩ [.ref a] [.ref a] _ _ hr e0 (hbind s₁ (.ref a)) (.cons rfl .nil) (hsp H hO hS)) fun r s' h=>?_;cases r with
  | error e=>exact (hCX H e s' h).elim
  | ok fl=>
   cases fl with
   | next=>exact False.elim h
   | brk=>exact False.elim h
   | cont=>exact False.elim h
   | ret u=>
    refine xB h fun v H' os bare un hok' r' q=>?_;clear h
    have q':v=.bl true:=q;subst q';obtain rfl:u=Value.bool true:=r';refine⟨rfl,OldK.of_keep fun b o e=>?_,os,bare⟩
    cases q:H b with
    | none=>exact un.keep b o e q (by intro z;exact absurd (show b∈([]:List Addr) from z) (by simp)) (by simp)
    | some u=>
     rcases hO b with z | ⟨ob,xs,z⟩
     ·rw [q] at z;cases z
     ·have z2:=un.frzs b ob _ z;refine xg (hok b _ z) fun e1 _=>?_;refine xg (hok' b _ z2) fun e2 _=>?_;rw [e] at e1;cases e1;exact e2
 cases hk:K.lookup a with
 | some o=>
  have e:=KX a o hk;rw [ha] at e;cases e;refine core (fun _=>none) (fun _=>.inl rfl) (.inr ⟨_,vs.toArray,_,hk,rfl,rfl,rfl,by rw [Zv,lenV];exact hl,by simpa using rv⟩) (fun b u z=>by have z':(none:Option HO)=some u:=z;cases z') (fun b z=>absurd rfl z) fun z=>absurd rfl z
 | none=>
  refine core (fun b=>if b=a then some (.frz {cls:=.type "list", data:=.seq vs.toArray} (.lst (ns.map V.int))) else none) (fun b=>?_) (.inl (.inr ⟨{cls:=.type "list", data:=.seq vs.toArray},if_pos rfl⟩)) (fun b u z=>?_) (fun b z=>?_) fun _=>hk
  ·by_cases hb:b=a
   ·exact .inr ⟨_,_,if_pos hb⟩
   ·exact .inl (if_neg hb)
  ·by_cases hb:b=a
   ·have z':=(if_pos hb).symm.trans z;cases z';subst hb;exact⟨ha,by rw [Zd];exact hl,vs,_,rv,ha⟩
   ·have z':=(if_neg hb).symm.trans z;cases z'
  ·by_cases hb:b=a
   ·exact hb
   ·exact absurd (if_neg hb) z
end L2
namespace L2
open PySem PySem.Spec PyProof.Rows
abbrev KOf {K:PySem.W.Frag} {h:Heap} (_:K.In h):PySem.W.Frag:=K
theorem walk_of {l:PySem.W.OpenLaw} {n k:Nat} {q:Program} {loose:List Str} {XP:(Str->Option Value)->Heap->Prop} {YP:World->Heap->Prop} {d:DefRec} {K:Params->PySem.W.Frag} {CX:World->CXT} {sp:World->Sp} {x:Str}
  (hn:l.most=some n) (hn2:n<=sizeLine) (hdf:d.params.defaults=[]) (hr:Room k callerA)
  (hY:∀ (w:World) (h:Heap),YP w h->(K w.params).In h)
  (F:∀ (w:World) (mg:Str->Option Value) (fa:Addr) (h:Heap),(K w.params).In h->h.Ns mainGlobals mg->mg d.name=some (.ref fa) ->
   ∃ fd:FuncData,(∀ (s:Shared) (u:Value),BindsTo s fd ⟨[u],[]⟩ [(x,u)]) /\
    ∀ base:Heap,(K w.params).In base->base.Ns mainGlobals mg->FnOk l.prog w (K w.params) mg base (CX w) k fa fd [x] (sp w))
  (hsp:∀ (w:World) (H:Hp) (a:Addr) (ns:List Int),ns.length<=n->Only H->SqL (K w.params) H a (ns.map V.int)->sp w [.ref a] H (fun v _=>v=.bl true) fun _ _ _=>False)
  (hCX:∀ (w:World) (H:Hp) (s:Shared) (e:Value) (s':Shared),CX w [] H s (fun _ _ _=>False) e s'->False) :
  PySem.W.WalkO q loose XP YP l.row.toRowW d [] (fun f vs=>PySem.call f vs):=by
 refine Att.attach_call hn hdf fun w s₀ s₁ mg mb fa o pm cd doc a vs ns G Y ho hd hcd hmg hobj hints hlen hg=>?_;have KX:=hY w _ Y;refine xa (F w mg fa _ KX G.T.g hmg) fun fd hb hF=>?_;exact ydd KX G.T.g G.T.b G.T.builtins G.T.nolimit hg hobj hints (Yn hlen hn2) hr hF hb (fun H hO hS=>hsp w H a ns hlen hO hS) fun H e s'=>hCX w H s₁ e s'
end L2
namespace L2
open PySem PySem.Spec PyProof.Rows
def zck (s:Stmt):Arguments:=match s with
 | .FunctionDef _ a _ _ _ _ _ _ _ _=>a
 | _=>{posonlyargs:=[],args:=[],vararg:=none,kwonlyargs:=[],kw_defaults:=[],kwarg:=none,defaults:=[]}
def Bz (s:Stmt):List Stmt:=match s with
 | .FunctionDef _ _ b _ _ _ _ _ _ _=>b
 | _=>[]
def Bw (s:Stmt):Scope:=match s with
 | .FunctionDef _ _ _ _ _ _ sc _ _ _=>sc
 | _=>{kind:=.function,names:=[],isGenerator:=false,isCoroutine:=false}
abbrev CX0:CXT:=fun _ _ _ _ _ _=>False
abbrev E0:XK:=fun _ _ _=>False
theorem pass0 {X:Cx}:yag CX0 X E0:=fun _ _ _ _ _ _ _ h=>h.elim
structure Fun (K:PySem.W.Frag) (x qual:Str) (st:Stmt) (f:Addr) (fd:FuncData):Prop where
 ex:∃ (oc:Value) (od:Option Addr) (kV doc pm:Value) (an:Option Addr) (cdv ct:Value) (osl:Array (Option Value)),
  fd=PySem.W.fnOf x qual (zck st) (Bz st) (Bw st) .none kV doc pm an cdv ct/\K.lookup f=some ⟨oc,od,.func fd,osl⟩/\PySem.W.codeIn K cdv qual=true
 kp:PySem.W.keepIn K (.ref f)=true
section
variable {P:Program} {w:World} {K:PySem.W.Frag} {mg:Str->Option Value} {base:Heap}
theorem Fun.ok {x qual:Str} {st:Stmt} {f:Addr} {fd:FuncData} {N ps:List Str} {k:Nat} {sp:Sp} (F:Fun K x qual st f fd) (S:FnScope N ps (Bw st)) (len:∀ vs H Q E,sp vs H Q E->vs.length=ps.length)
  (hbody:∀ (cdv:Value) (A:Around) (outer:List Env) (s:Shared) (H:Hp) (vs:List V) (Q:VK) (E:XK),Room k (A.deeper (envOfC qual (Bw st) s.heap.objs.size f cdv))->sp vs H Q E ->
   ∃ t,PSs (cxOf CX0 P w K mg base N qual (Bw st) f cdv A outer s H E).nox (Bz st) t/\t {nx:=fun _ H'=>Q .non H',rt:=Q} (start N vs) H):FnOk P w K mg base CX0 (k+1) f fd ps sp:=by
 obtain⟨oc,od,kV,doc,pm,an,cdv,ct,osl,rfl,lk,hcd⟩:=F.ex
 refine fn_of lk hcd S len fun A outer s H vs Q E hr hsp=>?_;refine xa (hbody cdv A outer s H vs Q E hr hsp) fun t h q=>?_;exact⟨t,h.nox,q⟩
theorem Fun.binds {x qual:Str} {st:Stmt} {f:Addr} {fd:FuncData} {ps:List Str} (F:Fun K x qual st f fd)
  (h:∀ (kV doc pm:Value) (an:Option Addr) (cdv ct:Value) (us:List Value),us.length=ps.length->bindArgs (PySem.W.fnOf x qual (zck st) (Bz st) (Bw st) .none kV doc pm an cdv ct) ⟨us,[]⟩=pure (ps.zip us)):Binds K fd ps []:=by
 obtain⟨oc,od,kV,doc,pm,an,cdv,ct,osl,rfl,lk,hcd⟩:=F.ex
 exact .all (h kV doc pm an cdv ct)
theorem ygg {x qual:Str} {st:Stmt} {f:Addr} {oc:Value} {od an:Option Addr} {osl:Array (Option Value)} {kV doc pm cdv ct:Value} (l:K.lookup f=some ⟨oc,od,.func (PySem.W.fnOf x qual (zck st) (Bz st) (Bw st) .none kV doc pm an cdv ct),osl⟩)
  (c:PySem.W.codeIn K cdv qual=true) (k:PySem.W.keepIn K (.ref f)=true):Fun K x qual st f (PySem.W.fnOf x qual (zck st) (Bz st) (Bw st) .none kV doc pm an cdv ct):=⟨⟨oc,od,kV,doc,pm,an,cdv,ct,osl,rfl,l,c⟩,k⟩
end
section
variable {X:Cx}
end
theorem iteF {A B:Prop} (h:B):if false=true then A else B:=by
 rw [if_neg Z2];exact h
theorem iteT {A B:Prop} (h:A):if true=true then A else B:=by
 rw [if_pos rfl];exact h
def Same (H H':Hp):Prop:=∀ b o,H b=some o->H' b=some o
theorem Same.refl (H:Hp):Same H H:=fun _ _ h=>h
theorem Same.trans {H H1 H2:Hp} (a:Same H H1) (b:Same H1 H2):Same H H2:=fun c o h=>b c o (a c o h)
theorem Same.free {H H':Hp} (e:Same H H') {l:Addr} (h:H' l=Option.none):H l=Option.none:=by
 cases q:H l with
 | none=>rfl
 | some o=>
  rw [e l o q] at h;cases h
theorem Same.seq {K:PySem.W.Frag} {H H':Hp} {a:Addr} {xs:List V} (e:Same H H') (h:SqL K H a xs):SqL K H' a xs:=by
 rcases h with (h | ⟨o,h⟩) | h
 ·exact .inl (.inl (e _ _ h))
 ·exact .inl (.inr ⟨o,e _ _ h⟩)
 ·exact .inr h
end L2
namespace DL
open PySem L2
inductive D where
 | non | bl (b:Bool) | int (i:Int) | tup (l:List D) | lst (l:List D) | exc (x:Str)
def ExcO (a C:Addr):HO:=.ext fun h=>∃ o vs,h.get? a=some o/\o.cls=.ref C/\o.data=.fields vs
mutual
def Den (K:PySem.W.Frag) (F:Hp):D->V->Prop
 | .non,v=>v=.non
 | .bl b,v=>v=.bl b
 | .int i,v=>v=.int i
 | .tup l,v=>∃ a xs,v=.ref a/\SqT K F a xs/\DenL K F l xs
 | .lst l,v=>∃ a xs,v=.ref a/\SqL K F a xs/\DenL K F l xs
 | .exc x,v=>∃ a C,v=.ref a/\PySem.W.nsIn K mainGlobals x=some (some (.ref C))/\F a=some (ExcO a C)
def DenL (K:PySem.W.Frag) (F:Hp):List D->List V->Prop
 | [],xs=>xs=[]
 | d::l,xs=>∃ v vs,xs=v::vs/\Den K F d v/\DenL K F l vs
end
theorem Same.tup {K:PySem.W.Frag} {H H':Hp} {a:Addr} {xs:List V} (e:Same H H') (h:SqT K H a xs):SqT K H' a xs:=by
 rcases h with (h | ⟨o,h⟩) | h
 ·exact .inl (.inl (e _ _ h))
 ·exact .inl (.inr ⟨o,e _ _ h⟩)
 ·exact .inr h
mutual
theorem Den.mono {K:PySem.W.Frag} {F F':Hp} (s:Same F F'):∀ (d:D) {v:V},Den K F d v->Den K F' d v
 | .non,_,h=>by simpa only [Den] using h
 | .bl _,_,h=>by simpa only [Den] using h
 | .int _,_,h=>by simpa only [Den] using h
 | .tup l,_,h=>by
  simp only [Den] at h |-;refine xc h fun a xs e q r=>?_;clear h
  exact⟨a,xs,e,Same.tup s q,DenL.mono s l r⟩
 | .lst l,_,h=>by
  simp only [Den] at h |-;refine xc h fun a xs e q r=>?_;clear h
  exact⟨a,xs,e,s.seq q,DenL.mono s l r⟩
 | .exc _,_,h=>by
  simp only [Den] at h |-;refine xc h fun a C e q r=>?_;clear h
  exact⟨a,C,e,q,s _ _ r⟩
theorem DenL.mono {K:PySem.W.Frag} {F F':Hp} (s:Same F F'):∀ (l:List D) {xs:List V},DenL K F l xs->DenL K F' l xs
 | [],_,h=>by simpa only [DenL] using h
 | d::l,_,h=>by
  simp only [DenL] at h |-;refine xc h fun v vs e q r=>?_;clear h
  exact⟨v,vs,e,Den.mono s d q,DenL.mono s l r⟩
end
section
variable {K:PySem.W.Frag} {F F':Hp}
theorem DenL.nil:DenL K F [] []:=by simp only [DenL]
theorem DenL.cons {d:D} {l:List D} {v:V} {vs:List V} (h:Den K F d v) (r:DenL K F l vs):DenL K F (d::l) (v::vs):=by
 simp only [DenL];exact⟨v,vs,rfl,h,r⟩
theorem DenL.inv_nil {xs:List V} (h:DenL K F [] xs):xs=[]:=by simpa only [DenL] using h
theorem DenL.inv_cons {d:D} {l:List D} {xs:List V} (h:DenL K F (d::l) xs):∃ v vs,xs=v::vs/\Den K F d v/\DenL K F l vs:=by simpa only [DenL] using h
theorem DenL.length:∀ {l:List D} {xs:List V},DenL K F l xs->xs.length=l.length
 | [],_,h=>by rw [h.inv_nil];rfl
 | d::l,_,h=>by
  refine xc h.inv_cons fun v vs e _ r=>?_;subst e;rw [Zk,Zk,r.length]
theorem DenL.get:∀ {l:List D} {xs:List V} {i:Nat} {d:D},DenL K F l xs->l[i]? = some d->∃ v,xs[i]? = some v/\Den K F d v
 | [],_,_,_,_,e=>by simp at e
 | d::l,_,0,d',h,e=>by
  refine xc h.inv_cons fun v vs z q r=>?_;subst z;simp at e;subst e
  exact⟨v,by simp,q⟩
 | d::l,_,i+1,d',h,e=>by
  refine xc h.inv_cons fun v vs z q r=>?_;subst z;refine xa (DenL.get (i:=i) (d:=d') r (by simpa using e)) fun u h1 h2=>?_;exact⟨u,by simpa using h1,h2⟩
theorem DenL.at:∀ {l:List D} {xs:List V} {i:Nat} {v:V},DenL K F l xs->xs[i]? = some v->∃ d,l[i]? = some d/\Den K F d v
 | [],_,_,_,h,e=>by rw [h.inv_nil] at e;simp at e
 | d::l,_,0,v',h,e=>by
  refine xc h.inv_cons fun v vs z q r=>?_;subst z;simp at e;subst e
  exact⟨d,by simp,q⟩
 | d::l,_,i+1,v',h,e=>by
  refine xc h.inv_cons fun v vs z q r=>?_;subst z;refine xa (DenL.at (i:=i) (v:=v') r (by simpa using e)) fun u h1 h2=>?_;exact⟨u,by simpa using h1,h2⟩
theorem DenL.append:∀ {l m:List D} {xs ys:List V},DenL K F l xs->DenL K F m ys->DenL K F (l++m) (xs++ys)
 | [],_,_,_,h,q=>by rw [h.inv_nil];simpa using q
 | d::l,m,_,ys,h,q=>by
  refine xc h.inv_cons fun v vs z p r=>?_;subst z;exact DenL.cons p (DenL.append r q)
theorem DenL.take:∀ {l:List D} {xs:List V} (n:Nat),DenL K F l xs->DenL K F (l.take n) (xs.take n)
 | [],_,n,h=>by rw [h.inv_nil];simpa using DenL.nil
 | _::_,_,0,_=>by simpa using DenL.nil
 | d::l,_,n+1,h=>by
  refine xc h.inv_cons fun v vs z p r=>?_;subst z;exact DenL.cons p (DenL.take n r)
theorem DenL.drop:∀ {l:List D} {xs:List V} (n:Nat),DenL K F l xs->DenL K F (l.drop n) (xs.drop n)
 | [],_,n,h=>by rw [h.inv_nil];simpa using DenL.nil
 | _::_,_,0,h=>by simpa using h
 | d::l,_,n+1,h=>by
  refine xc h.inv_cons fun v vs z p r=>?_;subst z;simpa using DenL.drop n r
theorem DenL.ints:∀ (ns:List Int),DenL K F (ns.map D.int) (ns.map V.int)
 | []=>DenL.nil
 | n::ns=>DenL.cons (by simp only [Den]) (DenL.ints ns)
theorem Den.int {i:Int} {v:V} (h:Den K F (.int i) v):v=.int i:=by simpa only [Den] using h
theorem Den.bl {b:Bool} {v:V} (h:Den K F (.bl b) v):v=.bl b:=by simpa only [Den] using h
theorem Den.non {v:V} (h:Den K F .non v):v=.non:=by simpa only [Den] using h
theorem Den.tup {l:List D} {v:V} (h:Den K F (.tup l) v):∃ a xs,v=.ref a/\SqT K F a xs/\DenL K F l xs:=by simpa only [Den] using h
theorem Den.lst {l:List D} {v:V} (h:Den K F (.lst l) v):∃ a xs,v=.ref a/\SqL K F a xs/\DenL K F l xs:=by simpa only [Den] using h
theorem Den.exc {x:Str} {v:V} (h:Den K F (.exc x) v):∃ a C,v=.ref a/\PySem.W.nsIn K mainGlobals x=some (some (.ref C))/\F a=some (ExcO a C):=by simpa only [Den] using h
theorem Den.int_mk {i:Int}:Den K F (.int i) (.int i):=by simp only [Den]
theorem Den.bl_mk {b:Bool}:Den K F (.bl b) (.bl b):=by simp only [Den]
theorem Den.non_mk:Den K F .non .non:=by simp only [Den]
theorem Den.tup_mk {l:List D} {a:Addr} {xs:List V} (q:SqT K F a xs) (r:DenL K F l xs):Den K F (.tup l) (.ref a):=by simp only [Den];exact⟨a,xs,rfl,q,r⟩
theorem Den.lst_mk {l:List D} {a:Addr} {xs:List V} (q:SqL K F a xs) (r:DenL K F l xs):Den K F (.lst l) (.ref a):=by simp only [Den];exact⟨a,xs,rfl,q,r⟩
end
inductive W where
 | val (d:D) | new (l:List D)
def W.d:W->D
 | .val d=>d
 | .new l=>.lst l
abbrev Rho:=List (Option D)
structure ER (K:PySem.W.Frag) (H0 Fc F H:Hp) (σ:St) (ρ:Rho):Prop where
 sub:Same F H
 same:Same H0 H
 base:Same Fc F
 new:∀ a o,F a=some o->Fc a=some o\/H0 a=none
 env:∀ (i:Nat) d,ρ[i]? = some (some d)->∃ v,σ[i]? = some (some v)/\Den K F d v
def RW (K:PySem.W.Frag) (H0 F H:Hp):W->V->Prop
 | .val d,v=>Den K F d v
 | .new l,v=>∃ a xs,v=.ref a/\F a=none/\H0 a=none/\H a=some (.lst xs)/\DenL K F l xs
theorem zcn {F:Hp} {a:Addr} {o:HO} (h:F a=none):Same F (upd F a o):=fun b u e=>by
 rw [zaa (fun z=>by subst z;rw [h] at e;cases e)];exact e
section
variable {K:PySem.W.Frag} {H0 Fc F H:Hp} {σ:St} {ρ:Rho}
theorem ER.lay (R:ER K H0 Fc F H σ ρ) {a:Addr} (o:HO) (hn:H a=none):ER K H0 Fc (upd F a o) (upd H a o) σ ρ/\Same F (upd F a o):=by
 have hF:F a=none:=by
  cases q:F a with
  | none=>rfl
  | some u=>rw [R.sub a u q] at hn;cases hn
 have h0:H0 a=none:=R.same.free hn;have sF:=zcn (o:=o) hF;refine⟨⟨fun b u e=>?_,R.same.trans (zcn hn),R.base.trans sF,fun b u e=>?_,fun i d e=>?_⟩,sF⟩
 ·by_cases hb:b=a
  ·subst hb;rw [B5] at e |-;exact e
  ·rw [zaa hb] at e |-;exact R.sub b u e
 ·by_cases hb:b=a
  ·subst hb;exact .inr h0
  ·rw [zaa hb] at e;exact R.new b u e
 ·refine xa (R.env i d e) fun v h1 h2=>?_;exact⟨v,h1,h2.mono sF⟩
theorem ER.freeze (R:ER K H0 Fc F H σ ρ) {a:Addr} {xs:List V} (hF:F a=none) (h0:H0 a=none) (hH:H a=some (.lst xs)):ER K H0 Fc (upd F a (.lst xs)) H σ ρ/\Same F (upd F a (.lst xs)):=by
 have sF:=zcn (o:=.lst xs) hF;refine⟨⟨fun b u e=>?_,R.same,R.base.trans sF,fun b u e=>?_,fun i d e=>?_⟩,sF⟩
 ·by_cases hb:b=a
  ·subst hb;rw [B5] at e;cases e;exact hH
  ·rw [zaa hb] at e;exact R.sub b u e
 ·by_cases hb:b=a
  ·subst hb;exact .inr h0
  ·rw [zaa hb] at e;exact R.new b u e
 ·refine xa (R.env i d e) fun v h1 h2=>?_;exact⟨v,h1,h2.mono sF⟩
theorem RW.freeze {w:W} {v:V} (R:ER K H0 Fc F H σ ρ) (h:RW K H0 F H w v):∃ F',Same F F'/\ER K H0 Fc F' H σ ρ/\Den K F' w.d v:=by
 cases w with
 | val d=>exact⟨F,Same.refl _,R,h⟩
 | new l=>
  refine xm h fun a xs e hF h0 hH r=>?_;clear h
  subst e;refine xg (R.freeze hF h0 hH) fun R' s=>?_;exact⟨_,s,R',Den.lst_mk (SqL.of B5) (r.mono s)⟩
end
section
variable (K:PySem.W.Frag) (H0 Fc:Hp) (ρ:Rho)
def tD (w:W):TE:=fun σ H Q=>∃ F,ER K H0 Fc F H σ ρ/\∀ v H' F',Same F F'->ER K H0 Fc F' H' σ ρ->RW K H0 F' H' w v->Q v H'
def tDf (d:D):TE:=fun σ H Q=>∃ F,ER K H0 Fc F H σ ρ/\∀ v H' F',Same F F'->ER K H0 Fc F' H' σ ρ->Den K F' d v->Q v H'
def tDA (ds:List D):TA:=fun σ H Q=>∃ F,ER K H0 Fc F H σ ρ/\∀ vs H' F',Same F F'->ER K H0 Fc F' H' σ ρ->DenL K F' ds vs->Q vs H'
def tDT (b:Bool):TT:=fun σ H Q=>∃ F,ER K H0 Fc F H σ ρ/\∀ H' F',Same F F'->ER K H0 Fc F' H' σ ρ->Q b H'
end
theorem PE.mono {X:Cx} {e:Expr} {t t':TE} (h:PE X e t) (k:∀ σ H Q,t' σ H Q->t σ H Q):PE X e t':=fun pins s σ H Q I q=>h pins s σ H Q I (k σ H Q q)
theorem PT.mono {X:Cx} {e:Expr} {t t':TT} (h:PT X e t) (k:∀ σ H Q,t' σ H Q->t σ H Q):PT X e t':=fun pins s σ H Q I q=>h pins s σ H Q I (k σ H Q q)
theorem PW.mono {X:Cx} {e:Expr} {t t':TT} (h:PW X e t) (k:∀ σ H Q,t' σ H Q->t σ H Q):PW X e t':=fun wh pins s σ H Q I q=>h wh pins s σ H Q I (k σ H Q q)
theorem PA.mono {X:Cx} {e:List Expr} {t t':TA} (h:PA X e t) (k:∀ σ H Q,t' σ H Q->t σ H Q):PA X e t':=fun pos pins s σ H Q I q=>h pos pins s σ H Q I (k σ H Q q)
theorem PS.mono {X:Cx} {e:Stmt} {t t':TS} (h:PS X e t) (k:∀ D σ H,t' D σ H->t D σ H):PS X e t':=fun pins s σ H D I q=>h pins s σ H D I (k D σ H q)
theorem PSs.mono {X:Cx} {e:List Stmt} {t t':TS} (h:PSs X e t) (k:∀ D σ H,t' D σ H->t D σ H):PSs X e t':=fun pins s σ H D I q=>h pins s σ H D I (k D σ H q)
def DE (X:Cx) (e:Expr) (ρ:Rho) (w:W):Prop:=∀ H0 Fc,PE X e (tD X.K H0 Fc ρ w)
def DF (X:Cx) (e:Expr) (ρ:Rho) (d:D):Prop:=∀ H0 Fc,PE X e (tDf X.K H0 Fc ρ d)
def DA (X:Cx) (es:List Expr) (ρ:Rho) (ds:List D):Prop:=∀ H0 Fc,PA X es (tDA X.K H0 Fc ρ ds)
def DT (X:Cx) (e:Expr) (ρ:Rho) (b:Bool):Prop:=∀ H0 Fc,PT X e (tDT X.K H0 Fc ρ b)
def DW (X:Cx) (e:Expr) (ρ:Rho) (b:Bool):Prop:=∀ H0 Fc,PW X e (tDT X.K H0 Fc ρ b)
section
variable {X:Cx} {e a b c:Expr} {es:List Expr} {ρ:Rho} {w:W} {pos:Pos}
theorem DE.df (h:DE X e ρ w):DF X e ρ w.d:=fun H0 Fc=>PE.mono (h H0 Fc) fun σ H Q hz=>xa hz fun F R k=>
 ⟨F,R,fun v H' F' s R' q=>by
  refine xh (RW.freeze R' q) fun F2 s2 R2 q2=>?_;exact k v H' F2 (s.trans s2) R2 q2⟩
theorem DF.de {d:D} (h:DF X e ρ d):DE X e ρ (.val d):=fun H0 Fc=>PE.mono (h H0 Fc) fun σ H Q hz=>xa hz fun F R k=>⟨F,R,fun v H' F' s R' q=>k v H' F' s R' q⟩
theorem DF.var {i:Nat} {x:Str} {d:D} (hN:X.N[i]? = some x) (hv:Vis X.env.scope x) (hd:(x == ("__debug__" : Str))=false) (hcd:(x == ("__classdict__" : Str))=false) (hr:ρ[i]? = some (some d)):DF X (.Name x pos) ρ d:=fun H0 Fc=>
 PE.mono (zgk hN hv hd hcd) fun σ H Q hz=>xa hz fun F R k=>by
  refine xa (R.env i d hr) fun v h1 h2=>?_;exact⟨v,h1,k v H F (Same.refl _) R h2⟩
theorem DF.cint {i:Int} {j}:DF X (.Constant (.int i) j pos) ρ (.int i):=fun H0 Fc=>PE.mono pe_int fun σ H Q hz=>xa hz fun F R k=>k _ H F (Same.refl _) R Den.int_mk
theorem DF.cbl {i:Bool} {j}:DF X (.Constant (.bool i) j pos) ρ (.bl i):=fun H0 Fc=>PE.mono pe_bl fun σ H Q hz=>xa hz fun F R k=>k _ H F (Same.refl _) R Den.bl_mk
theorem DF.cnon {j}:DF X (.Constant .none j pos) ρ .non:=fun H0 Fc=>PE.mono pe_non fun σ H Q hz=>xa hz fun F R k=>k _ H F (Same.refl _) R Den.non_mk
theorem zeg {x y:D} {H0 Fc:Hp} {r:R2} {w:W} {K:PySem.W.Frag}
  (hr:∀ H F σ v u (Q:VK),ER K H0 Fc F H σ ρ->Den K F x v->Den K F y u->(∀ v' H' F',Same F F'->ER K H0 Fc F' H' σ ρ->RW K H0 F' H' w v'->Q v' H')->r v u H Q) :
  ∀ σ H Q,tD K H0 Fc ρ w σ H Q->tOp r (tDf K H0 Fc ρ x) (tDf K H0 Fc ρ y) σ H Q:=fun σ H Q hz=>xa hz fun F R k=>
 ⟨F,R,fun v H1 F1 s1 R1 q1=>⟨F1,R1,fun u H2 F2 s2 R2 q2=>hr H2 F2 σ v u Q R2 (q1.mono s2) q2 fun v' H' F' s' R' q'=>k v' H' F' ((s1.trans s2).trans s') R' q'⟩⟩
theorem DE.opI {op:Operator} {C:Int->Int->Prop} {g:Int->Int->V} {x y:Int} {z:D} (ho:OpR X (binaryOp op) (rI C g)) (ha:DF X a ρ (.int x)) (hb:DF X b ρ (.int y)) (hc:C x y) (hz:∀ K F,Den K F z (g x y)) :
  DE X (.BinOp a op b pos) ρ (.val z):=fun H0 Fc=>PE.mono (yiq ho (ha H0 Fc) (hb H0 Fc)) (zeg fun H F σ v u Q R qv qu k=>by
   have e1:=qv.int;have e2:=qu.int;subst e1;subst e2;exact⟨x,y,rfl,rfl,hc,k _ H F (Same.refl _) R (hz _ _)⟩)
theorem DE.opI0 {op:Operator} {g:Int->Int->V} {x y:Int} {z:D} (ho:OpR X (binaryOp op) (rI0 g)) (ha:DF X a ρ (.int x)) (hb:DF X b ρ (.int y)) (hz:∀ K F,Den K F z (g x y)) :
  DE X (.BinOp a op b pos) ρ (.val z):=fun H0 Fc=>PE.mono (yiq ho (ha H0 Fc) (hb H0 Fc)) (zeg fun H F σ v u Q R qv qu k=>by
   have e1:=qv.int;have e2:=qu.int;subst e1;subst e2;exact⟨x,y,rfl,rfl,k _ H F (Same.refl _) R (hz _ _)⟩)
end
end DL
namespace DL
open PySem L2 PyProof.Rows
section
variable {K:PySem.W.Frag} {H0 Fc F H:Hp} {σ:L2.St} {ρ:Rho}
theorem ER.put (R:ER K H0 Fc F H σ ρ) {a:Addr} (o:HO) (hn:H a=none):ER K H0 Fc F (upd H a o) σ ρ/\F a=none/\H0 a=none:=by
 have hF:F a=none:=by
  cases q:F a with
  | none=>rfl
  | some u=>rw [R.sub a u q] at hn;cases hn
 exact⟨⟨R.sub.trans (zcn hn),R.same.trans (zcn hn),R.base,R.new,R.env⟩,hF,R.same.free hn⟩
end
section
variable {K:PySem.W.Frag} {H0 F H:Hp}
theorem RW.v {d:D} {v:V} (h:Den K F d v):RW K H0 F H (.val d) v:=h
theorem RW.int {i:Int}:RW K H0 F H (.val (.int i)) (.int i):=RW.v Den.int_mk
theorem RW.bl {i:Bool}:RW K H0 F H (.val (.bl i)) (.bl i):=RW.v Den.bl_mk
theorem RW.n {l:List D} {a:Addr} {xs:List V} (h1:F a=none) (h2:H0 a=none) (h3:H a=some (.lst xs)) (h4:DenL K F l xs):RW K H0 F H (.new l) (.ref a):=⟨a,xs,rfl,h1,h2,h3,h4⟩
end
section
variable {X:Cx} {e a b c:Expr} {es:List Expr} {ρ:Rho} {w:W} {pos:Pos}
theorem ygx {x:D} {H0 Fc:Hp} {r:V->Hp->VK->Prop} {w:W} {K:PySem.W.Frag}
  (hr:∀ H F σ v (Q:VK),ER K H0 Fc F H σ ρ->Den K F x v->(∀ v' H' F',Same F F'->ER K H0 Fc F' H' σ ρ->RW K H0 F' H' w v'->Q v' H')->r v H Q) :
  ∀ σ H Q,tD K H0 Fc ρ w σ H Q->tUn r (tDf K H0 Fc ρ x) σ H Q:=fun σ H Q hz=>xa hz fun F R k=>
 ⟨F,R,fun v H1 F1 s1 R1 q1=>hr H1 F1 σ v Q R1 q1 fun v' H' F' s' R' q'=>k v' H' F' (s1.trans s') R' q'⟩
theorem DE.neg {x:Int} (ha:DF X a ρ (.int x)):DE X (.UnaryOp .USub a pos) ρ (.val (.int (-x))):=fun H0 Fc=>PE.mono (pe_un un_neg (ha H0 Fc)) (ygx fun H F σ v Q R qv k=>by
 have e1:=qv.int;subst e1;exact⟨x,rfl,k _ H F (Same.refl _) R RW.int⟩)
def By:Expr->Bool
 | .Starred _ _=>false
 | _=>true
theorem B6 {env:Env} (h:By e=true):starEach (e::es) env=(false,eval e env)::starEach es env:=by
 cases e <;> first | rfl | (cases h;done)
theorem zcx {env:Env}:∀ {es:List Expr},es.all By=true->(backTo pos (starEach es env)).any (·.1)=false
 | [],_=>rfl
 | e::es,h=>by
  rw [Qb,Zq] at h;rw [B6 h.1];show (false || (backTo pos (starEach es env)).any (·.1))=false;rw [zcx h.2];rfl
theorem DA.nil:DA X [] ρ []:=fun H0 Fc=>PA.mono zwp fun σ H Q hz=>xa hz fun F R k=>k [] H F (Same.refl _) R DenL.nil
theorem DA.cons {d:D} {ds:List D} (ha:DF X e ρ d) (hr:DA X es ρ ds) (hs:By e=true):DA X (e::es) ρ (d::ds):=fun H0 Fc=>
 PA.mono (zle (ha H0 Fc) (hr H0 Fc) (B6 hs)) fun σ H Q hz=>xa hz fun F R k=>
  ⟨F,R,fun v H1 F1 s1 R1 q1=>⟨F1,R1,fun vs H2 F2 s2 R2 q2=>k (v::vs) H2 F2 (s1.trans s2) R2 (DenL.cons (q1.mono s2) q2)⟩⟩
theorem DE.tup {ds:List D} {x1} (ha:DA X es ρ ds) (hl:ds.length<=sizeLine):DE X (.Tuple es x1 pos) ρ (.val (.tup ds)):=fun H0 Fc=>PE.mono (pe_tup (ha H0 Fc)) fun σ H Q hz=>xa hz fun F R k=>
 ⟨F,R,fun vs H1 F1 s1 R1 q1=>⟨by rw [q1.length];exact hl,fun p hp=>by
  refine xg (R1.lay (.tup vs) hp) fun R2 s2=>?_;exact k _ _ _ (s1.trans s2) R2 (RW.v (Den.tup_mk (SqT.of B5) (q1.mono s2)))⟩⟩
theorem DE.lst {ds:List D} (ha:DA X es ρ ds) (hl:ds.length<=sizeLine):DE X (.List es pos) ρ (.new ds):=fun H0 Fc=>PE.mono (pe_lst (ha H0 Fc)) fun σ H Q hz=>xa hz fun F R k=>
 ⟨F,R,fun vs H1 F1 s1 R1 q1=>⟨by rw [q1.length];exact hl,fun p hp=>by
  refine xi (R1.put (.lst vs) hp) fun R2 hF h0=>?_;exact k _ _ _ s1 R2 (RW.n hF h0 B5 q1)⟩⟩
def zeb:Expr->Bool
 | .Slice _ _ _ _=>false
 | _=>true
theorem zwi (h:zeb b=true):yaf b:=fun o i=>by
 cases b <;> first | rfl | (cases h;done)
theorem zzv {K:PySem.W.Frag} {F:Hp} {l:List D} {xs:List V} {i:Int} {d:D} (h:DenL K F l xs) (e:atI l i=some d):∃ v,atI xs i=some v/\Den K F d v:=by
 unfold atI at e |-;rw [h.length];cases q:ixN l.length i with
 | none=>rw [q] at e;cases e
 | some j=>
  rw [q] at e;exact h.get e
theorem DE.ixT {l:List D} {i:Int} {d:D} (ha:DF X a ρ (.tup l)) (hb:DF X b ρ (.int i)) (hs:zeb b=true) (hi:atI l i=some d):DE X (.Subscript a b pos) ρ (.val d):=fun H0 Fc=>
 PE.mono (pe_ix ix_tup (ha H0 Fc) (hb H0 Fc) (zwi hs)) (zeg fun H F σ v u Q R qv qu k=>by
  refine xc qv.tup fun p xs e1 sq r=>?_;have e2:=qu.int;subst e1;subst e2;refine xa (zzv r hi) fun y h1 h2=>?_;exact⟨p,xs,i,y,rfl,rfl,Same.tup R.sub sq,h1,k _ H F (Same.refl _) R (RW.v h2)⟩)
theorem DE.ixL {l:List D} {i:Int} {d:D} (ha:DF X a ρ (.lst l)) (hb:DF X b ρ (.int i)) (hs:zeb b=true) (hi:atI l i=some d):DE X (.Subscript a b pos) ρ (.val d):=fun H0 Fc=>
 PE.mono (pe_ix yjt (ha H0 Fc) (hb H0 Fc) (zwi hs)) (zeg fun H F σ v u Q R qv qu k=>by
  refine xc qv.lst fun p xs e1 sq r=>?_;have e2:=qu.int;subst e1;subst e2;refine xa (zzv r hi) fun y h1 h2=>?_;exact⟨p,xs,i,y,rfl,rfl,R.sub.seq sq,h1,k _ H F (Same.refl _) R (RW.v h2)⟩)
def DO (X:Cx) (e:Option Expr) (ρ:Rho) (o:Option Int):Prop:=∀ H0 Fc,PO X e (fun σ H Q=>∃ F,ER X.K H0 Fc F H σ ρ/\∀ H' F',Same F F'->ER X.K H0 Fc F' H' σ ρ->Q o H')
theorem DO.none:DO X none ρ none:=fun H0 Fc pins s σ H Q I hz=>xa hz fun F R k=>yio pins s σ H Q I (k H F (Same.refl _) R)
theorem DO.some {i:Int} (h:DF X e ρ (.int i)):DO X (some e) ρ (some i):=fun H0 Fc pins s σ H Q I hz=>xa hz fun F R k=>yin (h H0 Fc) pins s σ H Q I
 ⟨F,R,fun v H' F' s' R' q'=>⟨i,q'.int,k H' F' s' R'⟩⟩
def cutD (l:List D) (lo hi:Option Int):List D:=(l.drop (HT.sIx l.length 0 lo)).take (HT.sIx l.length l.length hi-HT.sIx l.length 0 lo)
theorem ydt {K:PySem.W.Frag} {F:Hp} {l:List D} {xs:List V} {lo hi:Option Int} (h:DenL K F l xs):DenL K F (cutD l lo hi) (cutV xs lo hi):=by
 unfold cutD cutV;rw [h.length];exact (h.drop _).take _
theorem DE.slL {l:List D} {lo hi:Option Expr} {i j:Option Int} {p2:Pos} (ha:DF X a ρ (.lst l)) (hl:DO X lo ρ i) (hh:DO X hi ρ j):DE X (.Subscript a (.Slice lo hi none p2) pos) ρ (.new (cutD l i j)):=fun H0 Fc=>
 PE.mono (yci yhr (ha H0 Fc) (hl H0 Fc) (hh H0 Fc)) fun σ H Q hz=>xa hz fun F R k=>⟨F,R,fun v H1 F1 s1 R1 q1=>⟨F1,R1,fun H2 F2 s2 R2=>⟨F2,R2,fun H3 F3 s3 R3=>by
  refine xc q1.lst fun p xs e1 sq r=>?_;subst e1;refine⟨p,xs,rfl,R3.sub.seq (s3.seq (s2.seq sq)),fun q hq=>?_⟩
  refine xi (R3.put (.lst (cutV xs i j)) hq) fun R4 hF h0=>?_;exact k _ _ _ (s1.trans (s2.trans s3)) R4 (RW.n hF h0 B5 (ydt ((r.mono s2).mono s3)))⟩⟩⟩
def spD (K:PySem.W.Frag) (n:Nat) (φ:List D->Option W):Sp:=fun vs H Q _=>∃ F ds w,Same F H/\DenL K F ds vs/\ds.length=n/\φ ds=some w /\
 ∀ v H' F',Same H H'->Same F F'->Same F' H'->(∀ a o,F' a=some o->F a=some o\/H a=none)->RW K H F' H' w v->Q v H'
def ygu (X:Cx) (x:Str) (n:Nat) (φ:List D->Option W):Prop:=∃ (k:Nat) (f:Addr) (fd:FuncData) (ps:List Str),
 FnOk X.prog X.w X.K X.mg X.base CX0 k f fd ps (spD X.K n φ)/\Room k X.A/\X.mg x=some (.ref f)/\PySem.W.keepIn X.K (.ref f)=true/\Binds X.K fd ps []
theorem ER.called {K:PySem.W.Frag} {H0 Fc F H F' H':Hp} {σ:L2.St} {ρ:Rho} (R:ER K H0 Fc F H σ ρ) (s1:Same H H') (s2:Same F F') (s3:Same F' H') (hn:∀ a o,F' a=some o->F a=some o\/H a=none):ER K H0 Fc F' H' σ ρ:=
 ⟨s3,R.same.trans s1,R.base.trans s2,fun a o e=>(hn a o e).elim (R.new a o) fun z=>.inr (R.same.free z),fun i d e=>by
  refine xa (R.env i d e) fun v h1 h2=>?_;exact⟨v,h1,h2.mono s2⟩⟩
theorem DE.call {x:Str} {p:Pos} {n:Nat} {φ:List D->Option W} {ds:List D} (hc:ygu X x n φ) (hg:Gl X x) (hdb:(x == ("__debug__" : Str))=false) (ha:DA X (e::es) ρ ds) (hn:ds.length=n) (hw:φ ds=some w) (hs:By e=true) (hss:es.all By=true) :
  DE X (.Call (.Name x p) (e::es) [] pos) ρ w:=fun H0 Fc=>by
 refine xC hc fun k f fd ps G hr hm hk hb=>?_;clear hc
 refine PE.mono (yis (E:=E0) G hr hg hm hk hb .nil pass0 (ha H0 Fc) hdb (B6 hs) (zcx hss)) fun σ H Q hz=>xa hz fun F R k=>⟨F,R,fun vs H1 F1 s1 R1 q1=>?_⟩
 refine⟨F1,ds,w,R1.sub,by rw [W5];exact q1,hn,hw,fun v H' F' a1 a2 a3 a4 a5=>k v H' F' (s1.trans a2) (R1.called a1 a2 a3 a4) ?_⟩
 cases w with
 | val d=>exact a5
 | new l=>
  refine xm a5 fun a xs e1 b1 b2 b3 b4=>?_;clear a5
  exact⟨a,xs,e1,b1,R1.same.free b2,b3,b4⟩
theorem DT.val {e:Expr} {k:Bool} (h:DF X e ρ (.bl k)) (he:∀ whole,isTrue e X.env whole=(do let v <- whole;standAt e.pos;holding [v] (truthy v))):DT X e ρ k:=fun H0 Fc=>
 PT.mono (pt_val (h H0 Fc) he) fun σ H Q hz=>xa hz fun F R q=>⟨F,R,fun v H1 F1 s1 R1 q1=>⟨k,q1.bl,q H1 F1 s1 R1⟩⟩
theorem DT.not {k:Bool} (h:DT X a ρ k):DT X (.UnaryOp .Not a pos) ρ (!k):=fun H0 Fc=>PT.mono (pt_not (h H0 Fc)) fun σ H Q hz=>xa hz fun F R q=>⟨F,R,fun H1 F1 s1 R1=>q H1 F1 s1 R1⟩
theorem DW.dt {k:Bool} (h:DW X e ρ k):DT X e ρ k:=fun H0 Fc=>(h H0 Fc).pt
theorem DW.and1 {k:Bool} (h:DT X a ρ k):DW X (.BoolOp .And [a] pos) ρ k:=fun H0 Fc=>yih (h H0 Fc)
theorem DW.or1 {k:Bool} (h:DT X a ρ k):DW X (.BoolOp .Or [a] pos) ρ k:=fun H0 Fc=>pw_or1 (h H0 Fc)
theorem DW.andT {k:Bool} (h:DT X a ρ true) (h2:DW X (.BoolOp .And (b::es) pos) ρ k):DW X (.BoolOp .And (a::b::es) pos) ρ k:=fun H0 Fc=>PW.mono (yfi (h H0 Fc) (h2 H0 Fc)) fun σ H Q hz=>xa hz fun F R q=>
 ⟨F,R,fun H1 F1 s1 R1=>iteT (⟨F1,R1,fun H2 F2 s2 R2=>q H2 F2 (s1.trans s2) R2⟩)⟩
theorem DW.andF {tb} (h:DT X a ρ false) (h2:PW X (.BoolOp .And (b::es) pos) tb):DW X (.BoolOp .And (a::b::es) pos) ρ false:=fun H0 Fc=>PW.mono (yfi (h H0 Fc) h2) fun σ H Q hz=>xa hz fun F R q=>
 ⟨F,R,fun H1 F1 s1 R1=>iteF (q H1 F1 s1 R1)⟩
theorem DW.orF {k:Bool} (h:DT X a ρ false) (h2:DW X (.BoolOp .Or (b::es) pos) ρ k):DW X (.BoolOp .Or (a::b::es) pos) ρ k:=fun H0 Fc=>PW.mono (pw_or (h H0 Fc) (h2 H0 Fc)) fun σ H Q hz=>xa hz fun F R q=>
 ⟨F,R,fun H1 F1 s1 R1=>iteF (⟨F1,R1,fun H2 F2 s2 R2=>q H2 F2 (s1.trans s2) R2⟩)⟩
theorem DW.orT {tb} (h:DT X a ρ true) (h2:PW X (.BoolOp .Or (b::es) pos) tb):DW X (.BoolOp .Or (a::b::es) pos) ρ true:=fun H0 Fc=>PW.mono (pw_or (h H0 Fc) h2) fun σ H Q hz=>xa hz fun F R q=>
 ⟨F,R,fun H1 F1 s1 R1=>iteT (q H1 F1 s1 R1)⟩
theorem zrb:PW X e (fun _ _ _=>False):=fun _ _ _ _ _ _ _ h=>h.elim
theorem zrh:PE X e (fun _ _ _=>False):=fun _ _ _ _ _ _ h=>h.elim
theorem DE.not {k:Bool} (h:DF X a ρ (.bl k)):DE X (.UnaryOp .Not a pos) ρ (.val (.bl (!k))):=fun H0 Fc=>PE.mono (pe_not (h H0 Fc)) fun σ H Q hz=>xa hz fun F R q=>
 ⟨F,R,fun v H1 F1 s1 R1 q1=>⟨k,q1.bl,q _ H1 F1 s1 R1 RW.bl⟩⟩
theorem DE.one {op} (h:DE X a ρ w):DE X (.BoolOp op [a] pos) ρ w:=fun H0 Fc=>pe_one (h H0 Fc)
theorem DE.andT (h:DF X a ρ (.bl true)) (h2:DE X (.BoolOp .And (b::es) pos) ρ w):DE X (.BoolOp .And (a::b::es) pos) ρ w:=fun H0 Fc=>PE.mono (yfo (h H0 Fc) (h2 H0 Fc)) fun σ H Q hz=>xa hz fun F R q=>
 ⟨F,R,fun v H1 F1 s1 R1 q1=>⟨true,q1.bl,iteT (⟨F1,R1,fun v H2 F2 s2 R2 q2=>q v H2 F2 (s1.trans s2) R2 q2⟩)⟩⟩
theorem DE.andF (h:DF X a ρ (.bl false)):DE X (.BoolOp .And (a::b::es) pos) ρ (.val (.bl false)):=fun H0 Fc=>PE.mono (yfo (h H0 Fc) zrh) fun σ H Q hz=>xa hz fun F R q=>
 ⟨F,R,fun v H1 F1 s1 R1 q1=>⟨false,q1.bl,iteF (q _ H1 F1 s1 R1 RW.bl)⟩⟩
theorem DE.orF (h:DF X a ρ (.bl false)) (h2:DE X (.BoolOp .Or (b::es) pos) ρ w):DE X (.BoolOp .Or (a::b::es) pos) ρ w:=fun H0 Fc=>PE.mono (pe_or (h H0 Fc) (h2 H0 Fc)) fun σ H Q hz=>xa hz fun F R q=>
 ⟨F,R,fun v H1 F1 s1 R1 q1=>⟨false,q1.bl,iteF (⟨F1,R1,fun v H2 F2 s2 R2 q2=>q v H2 F2 (s1.trans s2) R2 q2⟩)⟩⟩
theorem DE.orT (h:DF X a ρ (.bl true)):DE X (.BoolOp .Or (a::b::es) pos) ρ (.val (.bl true)):=fun H0 Fc=>PE.mono (pe_or (h H0 Fc) zrh) fun σ H Q hz=>xa hz fun F R q=>
 ⟨F,R,fun v H1 F1 s1 R1 q1=>⟨true,q1.bl,iteT (q _ H1 F1 s1 R1 RW.bl)⟩⟩
def zde (X:Cx) (op:CmpOp) (x y:D) (k:Bool):Prop:=∃ r,OpR X (compareOp op) r /\
 ∀ (H F:Hp) (v u:V) (Q:VK),Same F H->Den X.K F x v->Den X.K F y u->Q (.bl k) H->r v u H Q
theorem DE.cmp {op:CmpOp} {x y:D} {k:Bool} (hc:zde X op x y k) (ha:DF X a ρ x) (hb:DF X b ρ y) (hm:behindInMarks op b=false):DE X (.Compare a [op] [b] pos) ρ (.val (.bl k)):=fun H0 Fc=>by
 refine xa hc fun r ho hr=>?_;clear hc
 exact PE.mono (yir ho (ha H0 Fc) (hb H0 Fc) hm) (zeg fun H F σ v u Q R qv qu q=>hr H F v u Q R.sub qv qu (q _ H F (Same.refl _) R RW.bl))
theorem DT.cmp {op:CmpOp} {x y:D} {k:Bool} (hc:zde X op x y k) (ha:DF X a ρ x) (hb:DF X b ρ y) (hm:behindInMarks op b=false):DT X (.Compare a [op] [b] pos) ρ k:=fun H0 Fc=>by
 refine xa hc fun r ho hr=>?_;clear hc
 refine PT.mono (yik ho (ha H0 Fc) (hb H0 Fc) hm) fun σ H Q hz=>xa hz fun F R q=>⟨F,R,fun v H1 F1 s1 R1 q1=>⟨F1,R1,fun u H2 F2 s2 R2 q2=>?_⟩⟩
 exact hr H2 F2 v u _ R2.sub (q1.mono s2) q2 ⟨k,rfl,q H2 F2 (s1.trans s2) R2⟩
theorem cmpI {op:CmpOp} {g:Int->Int->Bool} {x y:Int} (ho:OpR X (compareOp op) (rI0 fun i j=>.bl (g i j))):zde X op (.int x) (.int y) (g x y):=
 ⟨_,ho,fun H F v u Q s qv qu q=>⟨x,y,qv.int,qu.int,q⟩⟩
theorem cmp_lt {x y:Int}:zde X .Lt (.int x) (.int y) (decide (x<y)):=cmpI op_lt
theorem cmp_le {x y:Int}:zde X .LtE (.int x) (.int y) (decide (x<=y)):=cmpI op_le
theorem cmp_gt {x y:Int}:zde X .Gt (.int x) (.int y) (decide (y<x)):=cmpI op_gt
theorem cmp_ge {x y:Int}:zde X .GtE (.int x) (.int y) (decide (y<=x)):=cmpI op_ge
theorem yky {x y:Int}:zde X .Eq (.int x) (.int y) (decide (x=y)):=⟨_,op_eq,fun H F v u Q s qv qu q=>by
 have e1:=qv.int;have e2:=qu.int;subst e1;subst e2;exact⟨rfl,by rw [zlw,Gj];exact q⟩⟩
theorem yku {x y:Int}:zde X .NotEq (.int x) (.int y) (!decide (x=y)):=⟨_,op_ne,fun H F v u Q s qv qu q=>by
 have e1:=qv.int;have e2:=qu.int;subst e1;subst e2;exact⟨rfl,by rw [zlw,Gj];exact q⟩⟩
theorem ykz {x y:Bool}:zde X .Eq (.bl x) (.bl y) (x == y):=⟨_,op_eq,fun H F v u Q s qv qu q=>by
 have e1:=qv.bl;have e2:=qu.bl;subst e1;subst e2;exact⟨rfl,by rw [zsn];exact q⟩⟩
theorem ykv {x y:Bool}:zde X .NotEq (.bl x) (.bl y) (!(x == y)):=⟨_,op_ne,fun H F v u Q s qv qu q=>by
 have e1:=qv.bl;have e2:=qu.bl;subst e1;subst e2;exact⟨rfl,by rw [zsn];exact q⟩⟩
def zoa:D->Bool
 | .non=>true
 | _=>false
theorem znz {K:PySem.W.Frag} {F:Hp} {d:D} {v:V} (h:Den K F d v):decide (v=V.non)=zoa d:=by
 cases d with
 | non=>rw [h.non];rfl
 | bl b=>rw [h.bl];rfl
 | int i=>rw [h.int];rfl
 | tup l=>refine xj h.tup fun a xs e _=>?_;rw [e];rfl
 | lst l=>refine xj h.lst fun a xs e _=>?_;rw [e];rfl
 | exc x=>refine xj h.exc fun a C e _=>?_;rw [e];rfl
theorem ykw {x:D}:zde X .Is x .non (zoa x):=⟨_,op_isN,fun H F v u Q s qv qu q=>⟨qu.non,by rw [znz qv];exact q⟩⟩
theorem ydx {x:D}:zde X .IsNot x .non (!zoa x):=⟨_,yiy,fun H F v u Q s qv qu q=>⟨qu.non,by rw [znz qv];exact q⟩⟩
def zjh (X:Cx) (f:Value) (ds:List D) (w:W):Prop:=∃ r,zjq X f r /\
 ∀ (H0 Fc H F:Hp) (σ:L2.St) (ρ:Rho) (vs:List V) (Q:VK),ER X.K H0 Fc F H σ ρ->DenL X.K F ds vs->(∀ v' H' F',Same F F'->ER X.K H0 Fc F' H' σ ρ->RW X.K H0 F' H' w v'->Q v' H')->r vs H Q
theorem DE.blt {x:Str} {id:String} {p:Pos} {ds:List D} (hc:zjh X (.builtin id) ds w) (hg:Gl X x) (hm:X.mg x=none) (hv:bootBuiltins x=some (.builtin id)) (hn:x ≠ "__name__") (hdb:(x == ("__debug__" : Str))=false) (ha:DA X (e::es) ρ ds) (hs:By e=true) (hss:es.all By=true) :
  DE X (.Call (.Name x p) (e::es) [] pos) ρ w:=fun H0 Fc=>by
 refine xa hc fun r hr hq=>?_;clear hc
 refine PE.mono (zri hr hg hm hv (ha H0 Fc) hn hdb (B6 hs) (zcx hss)) fun σ H Q hz=>xa hz fun F R k=>⟨F,R,fun vs H1 F1 s1 R1 q1=>?_⟩
 exact hq H0 Fc H1 F1 σ ρ vs Q R1 q1 fun v' H' F' s' R' q'=>k v' H' F' (s1.trans s') R' q'
theorem DE.ty {x:Str} {id:String} {p:Pos} {ds:List D} (hc:zjh X (.type id) ds w) (hg:Gl X x) (hm:X.mg x=none) (hv:bootBuiltins x=some (.type id)) (hn:x ≠ "__name__") (hdb:(x == ("__debug__" : Str))=false) (ha:DA X (e::es) ρ ds) (hs:By e=true) (hss:es.all By=true) :
  DE X (.Call (.Name x p) (e::es) [] pos) ρ w:=fun H0 Fc=>by
 refine xa hc fun r hr hq=>?_;clear hc
 refine PE.mono (zwo hr hg hm hv (ha H0 Fc) hn hdb (B6 hs) (zcx hss)) fun σ H Q hz=>xa hz fun F R k=>⟨F,R,fun vs H1 F1 s1 R1 q1=>?_⟩
 exact hq H0 Fc H1 F1 σ ρ vs Q R1 q1 fun v' H' F' s' R' q'=>k v' H' F' (s1.trans s') R' q'
theorem DenL.one {K:PySem.W.Frag} {F:Hp} {d:D} {vs:List V} (h:DenL K F [d] vs):∃ v,vs=[v]/\Den K F d v:=by
 refine xc h.inv_cons fun v r e q z=>?_;rw [z.inv_nil] at e;exact⟨v,e,q⟩
theorem DenL.two {K:PySem.W.Frag} {F:Hp} {d d':D} {vs:List V} (h:DenL K F [d,d'] vs):∃ v v',vs=[v,v']/\Den K F d v/\Den K F d' v':=by
 refine xc h.inv_cons fun v r e q z=>?_;refine xa z.one fun v' e' q'=>?_;rw [e'] at e;exact⟨v,v',e,q,q'⟩
theorem ylj {i:Int}:zjh X (.builtin "abs") [.int i] (.val (.int (if i<0 then -i else i))):=⟨_,yea,fun H0 Fc H F σ ρ vs Q R q k=>by
 refine xa q.one fun v e q=>?_;rw [q.int] at e;exact⟨i,e,k _ H F (Same.refl _) R RW.int⟩⟩
theorem yee {l:List D}:zjh X (.builtin "len") [.lst l] (.val (.int l.length)):=⟨_,zgq,fun H0 Fc H F σ ρ vs Q R q k=>by
 refine xa q.one fun v e q=>?_;refine xc q.lst fun p xs e1 sq r=>?_;rw [e1] at e;exact⟨p,xs,e,.inl (R.sub.seq sq),by rw [r.length];exact k _ H F (Same.refl _) R RW.int⟩⟩
theorem yed {l:List D}:zjh X (.builtin "len") [.tup l] (.val (.int l.length)):=⟨_,zgq,fun H0 Fc H F σ ρ vs Q R q k=>by
 refine xa q.one fun v e q=>?_;refine xc q.tup fun p xs e1 sq r=>?_;rw [e1] at e;exact⟨p,xs,e,.inr (Same.tup R.sub sq),by rw [r.length];exact k _ H F (Same.refl _) R RW.int⟩⟩
end
end DL
namespace DL
open PySem L2 PyProof.Rows
mutual
def lf:D->Bool
 | .non=>true
 | .bl _=>true
 | .int _=>true
 | .tup l=>lfL l
 | .lst _=>false
 | .exc _=>false
def lfL:List D->Bool
 | []=>true
 | d::l=>lf d && lfL l
end
def lfW:W->Bool
 | .val d=>lf d
 | .new l=>lfL l
mutual
theorem Den.shrink {K:PySem.W.Frag} {F F':Hp} (s:∀ a xs,SqT K F a xs->SqT K F' a xs):∀ (d:D) {v:V},lf d=true->Den K F d v->Den K F' d v
 | .non,_,_,h=>by simpa only [Den] using h
 | .bl _,_,_,h=>by simpa only [Den] using h
 | .int _,_,_,h=>by simpa only [Den] using h
 | .tup l,_,f,h=>by
  refine xc h.tup fun a xs e q r=>?_;subst e;exact Den.tup_mk (s _ _ q) (DenL.shrink s l (by simpa only [lf] using f) r)
 | .lst l,_,f,h=>by simp only [lf] at f;cases f
 | .exc l,_,f,h=>by simp only [lf] at f;cases f
theorem DenL.shrink {K:PySem.W.Frag} {F F':Hp} (s:∀ a xs,SqT K F a xs->SqT K F' a xs):∀ (l:List D) {xs:List V},lfL l=true->DenL K F l xs->DenL K F' l xs
 | [],_,_,h=>by simpa only [DenL] using h
 | d::l,_,f,h=>by
  simp only [lfL,Zq] at f;refine xc h.inv_cons fun v vs e q r=>?_;subst e;exact DenL.cons (Den.shrink s d f.1 q) (DenL.shrink s l f.2 r)
end
inductive B where
 | sh (d:D) | ow (l:List D)
def B.d:B->D
 | .sh d=>d
 | .ow l=>.lst l
def W.b:W->B
 | .val d=>.sh d
 | .new l=>.ow l
abbrev RhoS:=List (Option B)
def view (ρ:RhoS):Rho:=ρ.map (Option.map B.d)
def frz (ρ:RhoS):RhoS:=ρ.map (Option.map fun b=>.sh b.d)
theorem yam {ρ:RhoS} {i:Nat} {d:D} (h:(view ρ)[i]? = some (some d)):∃ b,ρ[i]? = some (some b)/\b.d=d:=by
 unfold view at h;rw [Zj] at h;cases q:ρ[i]? with
 | none=>rw [q] at h;cases h
 | some o=>
  rw [q] at h;cases o with
  | none=>cases h
  | some b=>exact⟨b,rfl,by simpa using h⟩
theorem zlu {ρ:RhoS} {i:Nat} {b:B} (h:(frz ρ)[i]? = some (some b)):∃ c,ρ[i]? = some (some c)/\b=.sh c.d:=by
 unfold frz at h;rw [Zj] at h;cases q:ρ[i]? with
 | none=>rw [q] at h;cases h
 | some o=>
  rw [q] at h;cases o with
  | none=>cases h
  | some c=>exact⟨c,rfl,by simpa using h.symm⟩
structure SR (K:PySem.W.Frag) (H0 Fc F H:Hp) (σ:L2.St) (ρ:RhoS):Prop where
 sub:Same F H
 same:Same H0 H
 base:Same Fc F
 new:∀ a o,F a=some o->Fc a=some o\/H0 a=none
 env:∀ (i:Nat) d,ρ[i]? = some (some (.sh d))->∃ v,σ[i]? = some (some v)/\Den K F d v
 own:∀ (i:Nat) l,ρ[i]? = some (some (.ow l))->∃ a xs,σ[i]? = some (some (.ref a))/\F a=none/\H0 a=none/\H a=some (.lst xs)/\DenL K F l xs
 dis:∀ (i j:Nat) l m a,ρ[i]? = some (some (.ow l))->ρ[j]? = some (some (.ow m))->σ[i]? = some (some (.ref a))->σ[j]? = some (some (.ref a))->i=j
 len:σ.length=ρ.length
def Owned (σ:L2.St) (ρ:RhoS) (a:Addr):Prop:=∃ (i:Nat) (l:List D),ρ[i]? = some (some (.ow l))/\σ[i]? = some (some (.ref a))
section
variable {K:PySem.W.Frag} {H0 Fc F H:Hp} {σ:L2.St} {ρ:RhoS}
theorem SR.owned_none (S:SR K H0 Fc F H σ ρ) {a:Addr} (h:Owned σ ρ a):F a=none/\H0 a=none/\∃ xs,H a=some (.lst xs):=by
 refine xj h fun i l h1 h2=>?_;clear h
 refine xm (S.own i l h1) fun b xs e p q r _=>?_;rw [h2] at e;cases e;exact⟨p,q,xs,r⟩
open Classical in
def borrow (F H:Hp) (σ:L2.St) (ρ:RhoS):Hp:=fun a=>if Owned σ ρ a then H a else F a
open Classical in
theorem SR.borrow (S:SR K H0 Fc F H σ ρ):Same F (borrow F H σ ρ)/\ER K H0 Fc (borrow F H σ ρ) H σ (view ρ):=by
 have s:Same F (DL.borrow F H σ ρ):=fun a o e=>by
  unfold DL.borrow;rw [if_neg (fun z=>by rw [(S.owned_none z).1] at e;cases e)];exact e
 refine⟨s,⟨fun a o e=>?_,S.same,S.base.trans s,fun a o e=>?_,fun i d e=>?_⟩⟩
 ·unfold DL.borrow at e;by_cases hz:Owned σ ρ a
  ·rw [if_pos hz] at e;exact e
  ·rw [if_neg hz] at e;exact S.sub a o e
 ·unfold DL.borrow at e;by_cases hz:Owned σ ρ a
  ·exact .inr (S.owned_none hz).2.1
  ·rw [if_neg hz] at e;exact S.new a o e
 ·refine xa (yam e) fun b h1 h2=>?_;subst h2;cases b with
  | sh d=>
   refine xa (S.env i d h1) fun v p q=>?_;exact⟨v,p,q.mono s⟩
  | ow l=>
   refine xm (S.own i l h1) fun a xs p _ _ r q=>?_;refine⟨_,p,Den.lst_mk (SqL.of ?_) (q.mono s)⟩
   unfold DL.borrow;rw [if_pos ⟨i,l,h1,p⟩];exact r
open Classical in
theorem SR.back (S:SR K H0 Fc F H σ ρ) {F2 H2:Hp} {w:W} {v:V} (s:Same (DL.borrow F H σ ρ) F2) (R:ER K H0 Fc F2 H2 σ (view ρ)) (q:RW K H0 F2 H2 w v) (f:lfW w=true) :
  ∃ F3,Same F F3/\SR K H0 Fc F3 H2 σ ρ/\RW K H0 F3 H2 w v:=by
 have hown:∀ {a},Owned σ ρ a->∃ xs,F2 a=some (.lst xs):=fun {a} z=>by
  refine xD (S.owned_none z) fun _ _ xs r=>?_;exact⟨xs,s a _ (by unfold DL.borrow;rw [if_pos z];exact r)⟩
 have sF:Same F (fun a=>if Owned σ ρ a then none else F2 a):=fun a o e=>by
  have hz:¬ Owned σ ρ a:=fun z=>by rw [(S.owned_none z).1] at e;cases e
  show (if Owned σ ρ a then none else F2 a)=some o;rw [if_neg hz];exact s a o (S.borrow.1 a o e)
 have hsub:∀ a o,(if Owned σ ρ a then none else F2 a)=some o->F2 a=some o:=fun a o e=>by
  by_cases hz:Owned σ ρ a
  ·rw [if_pos hz] at e;cases e
  ·rw [if_neg hz] at e;exact e
 have tups:∀ a xs,SqT K F2 a xs->SqT K (fun a=>if Owned σ ρ a then none else F2 a) a xs:=fun a xs h=>by
  rcases h with h | h
  ·refine .inl ?_;have hz:¬ Owned σ ρ a:=fun z=>by
    refine xb (hown z) fun ys e=>?_;rcases h with h | ⟨o,h⟩
    ·rw [e] at h;cases h
    ·rw [e] at h;cases h
   rcases h with h | ⟨o,h⟩
   ·exact .inl (by show (if Owned σ ρ a then none else F2 a)=_;rw [if_neg hz];exact h)
   ·exact .inr ⟨o,by show (if Owned σ ρ a then none else F2 a)=_;rw [if_neg hz];exact h⟩
  ·exact .inr h
 refine⟨_,sF,⟨fun a o e=>R.sub a o (hsub a o e),R.same,S.base.trans sF,fun a o e=>R.new a o (hsub a o e),fun i d e=>?_,fun i l e=>?_,S.dis,S.len⟩,?_⟩
 ·refine xa (S.env i d e) fun v p q=>?_;exact⟨v,p,q.mono sF⟩
 ·refine xm (S.own i l e) fun a xs p p1 p2 p3 p4=>?_;have hz:Owned σ ρ a:=⟨i,l,e,p⟩;refine⟨a,xs,p,if_pos hz,p2,?_,p4.mono sF⟩
  exact R.sub _ _ (s a _ (by unfold DL.borrow;rw [if_pos hz];exact p3))
 ·cases w with
  | val d=>exact Den.shrink tups d f q
  | new l=>
   refine xm q fun a xs e p1 p2 p3 p4=>?_;clear q
   subst e;refine RW.n ?_ p2 p3 (DenL.shrink tups l f p4);by_cases hz:Owned σ ρ a
   ·exact if_pos hz
   ·exact (if_neg hz).trans p1
theorem SR.freeze (S:SR K H0 Fc F H σ ρ) {F2 H2:Hp} (s:Same (DL.borrow F H σ ρ) F2) (R:ER K H0 Fc F2 H2 σ (view ρ)):Same F F2/\SR K H0 Fc F2 H2 σ (frz ρ):=by
 refine⟨S.borrow.1.trans s,R.sub,R.same,R.base,R.new,fun i d e=>?_,fun i l e=>?_,fun i j l m a e=>?_,?_⟩
 ·refine xa (zlu e) fun c h1 h2=>?_;cases h2;refine R.env i c.d ?_;unfold view;rw [Zj,h1];rfl
 ·refine xa (zlu e) fun c h1 h2=>?_;cases h2
 ·refine xa (zlu e) fun c h1 h2=>?_;cases h2
 ·rw [S.len];unfold frz;rw [Zd]
def after (w:W) (ρ:RhoS):RhoS:=if lfW w=true then ρ else frz ρ
theorem SR.after (S:SR K H0 Fc F H σ ρ) {F2 H2:Hp} {w:W} {v:V} (s:Same (DL.borrow F H σ ρ) F2) (R:ER K H0 Fc F2 H2 σ (view ρ)) (q:RW K H0 F2 H2 w v) :
  ∃ F3,Same F F3/\SR K H0 Fc F3 H2 σ (DL.after w ρ)/\RW K H0 F3 H2 w v:=by
 unfold DL.after;by_cases f:lfW w=true
 ·rw [if_pos f];exact S.back s R q f
 ·rw [if_neg f];refine xg (S.freeze s R) fun a b=>?_;exact⟨F2,a,b,q⟩
theorem SR.bind (S:SR K H0 Fc F H σ ρ) {i:Nat} {w:W} {v:V} (q:RW K H0 F H w v) (hi:i<ρ.length) (hd:∀ l,w=.new l->∀ a,v=.ref a -> ¬ Owned σ ρ a):SR K H0 Fc F H (σ.set i (some v)) (ρ.set i (some w.b)):=by
 have hiσ:i<σ.length:=by rw [S.len];exact hi
 have gs:(σ.set i (some v))[i]? = some (some v):=by rw [Y9 hiσ]
 have gr:(ρ.set i (some w.b))[i]? = some (some w.b):=by rw [Y9 hi]
 have ns:∀ {j},j≠i->(σ.set i (some v))[j]? = σ[j]?:=fun h=>Yp (Wk h)
 have nr:∀ {j},j≠i->(ρ.set i (some w.b))[j]? = ρ[j]?:=fun h=>Yp (Wk h)
 refine⟨S.sub,S.same,S.base,S.new,fun j d e=>?_,fun j l e=>?_,fun j k l m a e1 e2 e3 e4=>?_,by rw [Wh,Wh];exact S.len⟩
 ·by_cases hj:j=i
  ·subst hj;rw [gr] at e;refine⟨v,gs,?_⟩
   cases w with
   | val d'=>cases e;exact q
   | new l=>cases e
  ·rw [nr hj] at e;rw [ns hj];exact S.env j d e
 ·by_cases hj:j=i
  ·subst hj;rw [gr] at e;cases w with
   | val d'=>cases e
   | new l'=>
    cases e;refine xm q fun a xs e1 p1 p2 p3 p4=>?_;clear q
    subst e1;exact⟨a,xs,gs,p1,p2,p3,p4⟩
  ·rw [nr hj] at e;rw [ns hj];exact S.own j l e
 ·by_cases hj:j=i
  ·by_cases hk:k=i
   ·rw [hj,hk]
   ·subst hj;rw [gr] at e1;rw [gs] at e3;rw [nr hk] at e2;rw [ns hk] at e4;cases w with
    | val d'=>cases e1
    | new l'=>cases e3;exact absurd ⟨k,m,e2,e4⟩ (hd l' rfl a rfl)
  ·by_cases hk:k=i
   ·subst hk;rw [gr] at e2;rw [gs] at e4;rw [nr hj] at e1;rw [ns hj] at e3;cases w with
    | val d'=>cases e2
    | new l'=>cases e4;exact absurd ⟨j,l,e1,e3⟩ (hd l' rfl a rfl)
   ·rw [nr hj] at e1;rw [ns hj] at e3;rw [nr hk] at e2;rw [ns hk] at e4;exact S.dis j k l m a e1 e2 e3 e4
theorem Owned.not_after (S:SR K H0 Fc F H σ ρ) {F2 H2:Hp} {w:W} {v:V} (s:Same (DL.borrow F H σ ρ) F2) (q:RW K H0 F2 H2 w v):∀ l,w=.new l->∀ a,v=.ref a -> ¬ Owned σ (DL.after w ρ) a:=fun l e a ev z=>by
 subst e;refine xc q fun b xs e1 p1 _=>?_;clear q
 rw [ev] at e1;cases e1;refine xj z fun i m h1 h2=>?_;clear z
 unfold DL.after at h1;by_cases f:lfW (.new l)=true
 ·rw [if_pos f] at h1;have hz:Owned σ ρ a:=⟨i,m,h1,h2⟩;refine xD (S.owned_none hz) fun _ _ ys r=>?_;have:=s a _ (by unfold DL.borrow;rw [if_pos hz];exact r)
  rw [p1] at this;cases this
 ·rw [if_neg f] at h1;refine xa (zlu h1) fun c _ h=>?_;cases h
theorem SR.mut (S:SR K H0 Fc F H σ ρ) {i:Nat} {l m:List D} {a:Addr} {ys:List V} (h:ρ[i]? = some (some (.ow l))) (ha:σ[i]? = some (some (.ref a))) (q:DenL K F m ys):SR K H0 Fc F (upd H a (.lst ys)) σ (ρ.set i (some (.ow m))):=by
 have hz:Owned σ ρ a:=⟨i,l,h,ha⟩;refine xD (S.owned_none hz) fun hF h0 xs hH=>?_;have hi:i<ρ.length:=(Zn.mp h).1;have gr:(ρ.set i (some (.ow m)))[i]? = some (some (.ow m)):=by rw [Y9 hi]
 have nr:∀ {j},j≠i->(ρ.set i (some (.ow m)))[j]? = ρ[j]?:=fun h=>Yp (Wk h)
 have ow:∀ {j:Nat} {k:List D},(ρ.set i (some (B.ow m)))[j]? = some (some (B.ow k))->∃ k':List D,ρ[j]? = some (some (B.ow k')):=fun {j k} e=>by
  by_cases hj:j=i
  ·subst hj;exact⟨l,h⟩
  ·rw [nr hj] at e;exact⟨k,e⟩
 refine⟨fun b o e=>?_,fun b o e=>?_,S.base,S.new,fun j d e=>?_,fun j k e=>?_,fun j k p q' b e1 e2 e3 e4=>?_,by rw [Wh];exact S.len⟩
 ·rw [zaa (fun z=>by subst z;rw [hF] at e;cases e)];exact S.sub b o e
 ·rw [zaa (fun z=>by subst z;rw [h0] at e;cases e)];exact S.same b o e
 ·by_cases hj:j=i
  ·subst hj;rw [gr] at e;cases e
  ·rw [nr hj] at e;exact S.env j d e
 ·by_cases hj:j=i
  ·subst hj;rw [gr] at e;cases e;exact⟨a,ys,ha,hF,h0,B5,q⟩
  ·rw [nr hj] at e;refine xm (S.own j k e) fun b zs p p1 p2 p3 p4=>?_;refine⟨b,zs,p,p1,p2,?_,p4⟩
   rw [zaa (fun z=>by subst z;exact hj (S.dis j i k l b e h p ha))];exact p3
 ·refine xb (ow e1) fun k1 f1=>?_;refine xb (ow e2) fun k2 f2=>?_;exact S.dis j k k1 k2 b f1 f2 e3 e4
end
inductive Out where
 | nx (ρ:RhoS) | rt (w:W)
structure RT (H0 Fc F H:Hp):Prop where
 sub:Same F H
 same:Same H0 H
 base:Same Fc F
 new:∀ a o,F a=some o->Fc a=some o\/H0 a=none
def tS (K:PySem.W.Frag) (H0 Fc:Hp) (ρ:RhoS) (o:Out):TS:=fun D σ H=>∃ F,SR K H0 Fc F H σ ρ/\match o with
 | .nx ρ'=>∀ σ' H' F',Same F F'->SR K H0 Fc F' H' σ' ρ'->D.nx σ' H'
 | .rt w=>∀ v H' F',RT H0 Fc F' H'->RW K H0 F' H' w v->D.rt v H'
def DS (X:Cx) (s:Stmt) (ρ:RhoS) (o:Out):Prop:=∀ H0 Fc,PS X s (tS X.K H0 Fc ρ o)
def DSs (X:Cx) (s:List Stmt) (ρ:RhoS) (o:Out):Prop:=∀ H0 Fc,PSs X s (tS X.K H0 Fc ρ o)
section
variable {X:Cx} {st:Stmt} {rest:List Stmt} {ρ ρ':RhoS} {o:Out} {w:W} {e:Expr} {pos:Pos}
theorem DSs.nil:DSs X [] ρ (.nx ρ):=fun H0 Fc=>PSs.mono yil fun D σ H hz=>xa hz fun F S k=>k σ H F (Same.refl _) S
theorem DSs.next (h1:DS X st ρ (.nx ρ')) (h2:DSs X rest ρ' o):DSs X (st::rest) ρ o:=fun H0 Fc=>PSs.mono (zrc (h1 H0 Fc) (h2 H0 Fc)) fun D σ H hz=>xa hz fun F S k=>
 ⟨F,S,fun σ' H' F' s' S'=>⟨F',S',by
  cases o with
  | nx ρ2=>exact fun σ2 H2 F2 s2 S2=>k σ2 H2 F2 (s'.trans s2) S2
  | rt w=>exact k⟩⟩
theorem DSs.ret (h1:DS X st ρ (.rt w)):DSs X (st::rest) ρ (.rt w):=fun H0 Fc=>PSs.mono (zrc (h1 H0 Fc) zih) fun D σ H hz=>xa hz fun F S k=>⟨F,S,k⟩
theorem DS.asg {i:Nat} {x:Str} {pos':Pos} (hN:X.N.Nodup) (hi:X.N[i]? = some x) (hx:Loc X.env.scope x) (hf:X.fn x=true\/X.env.scope.names.lookup x=some .local) (hs:swapsWith e (some (.Name x pos')) pos.line X.env=pure false) (hl:i<ρ.length)
  (he:DE X e (view ρ) w):DS X (.Assign [.Name x pos'] e pos) ρ (.nx ((after w ρ).set i (some w.b))):=fun H0 Fc=>PS.mono (ps_set hN hi hx (he H0 Fc) hs hf) fun D σ H hz=>xa hz fun F S k=>by
 refine xg S.borrow fun s0 R=>?_;refine⟨_,R,fun v H2 F2 s2 R2 q=>?_⟩
 refine xh (S.after s2 R2 q) fun F3 s3 S3 q3=>?_;refine k _ H2 F3 s3 (S3.bind q3 ?_ (Owned.not_after S s2 q));rw [<- S3.len,S.len];exact hl
theorem DS.ret (he:DE X e (view ρ) w):DS X (.Return (some e) pos) ρ (.rt w):=fun H0 Fc=>PS.mono (yfk (he H0 Fc)) fun D σ H hz=>xa hz fun F S k=>by
 refine xg S.borrow fun s0 R=>?_;exact⟨_,R,fun v H2 F2 s2 R2 q=>k v H2 F2 ⟨R2.sub,R2.same,R2.base,R2.new⟩ q⟩
theorem DS.retOwn {i:Nat} {x:Str} {l:List D} {p:Pos} (hN:X.N[i]? = some x) (hv:Vis X.env.scope x) (hd:(x == ("__debug__" : Str))=false) (hcd:(x == ("__classdict__" : Str))=false) (hr:ρ[i]? = some (some (.ow l))) :
  DS X (.Return (some (.Name x p)) pos) ρ (.rt (.new l)):=fun H0 Fc=>PS.mono (yfk (zgk hN hv hd hcd)) fun D σ H hz=>xa hz fun F S k=>by
 refine xm (S.own i l hr) fun a xs p p1 p2 p3 p4=>?_;exact⟨_,p,k _ H F ⟨S.sub,S.same,S.base,S.new⟩ (RW.n p1 p2 p3 p4)⟩
theorem SR.tested {K:PySem.W.Frag} {H0 Fc F H:Hp} {σ:L2.St} (S:SR K H0 Fc F H σ ρ) {F2 H2:Hp} (s:Same (DL.borrow F H σ ρ) F2) (R:ER K H0 Fc F2 H2 σ (view ρ)):∃ F3,Same F F3/\SR K H0 Fc F3 H2 σ ρ:=by
 refine xh (S.back (w:=.val .non) (v:=.non) s R (RW.v Den.non_mk) rfl) fun F3 a b _=>?_;exact⟨F3,a,b⟩
theorem tS.pre {K:PySem.W.Frag} {H0 Fc F F3 H H2:Hp} {σ:L2.St} {ρ2:RhoS} {D:Ends} (s:Same F F3) (S3:SR K H0 Fc F3 H2 σ ρ2)
  (k:match o with | .nx ρ'=>∀ σ' H' F',Same F F'->SR K H0 Fc F' H' σ' ρ'->D.nx σ' H' | .rt w=>∀ v H' F',RT H0 Fc F' H'->RW K H0 F' H' w v->D.rt v H'):tS K H0 Fc ρ2 o D σ H2:=⟨F3,S3,by
 cases o with
 | nx ρ'=>exact fun σ' H' F' s' S'=>k σ' H' F' (s.trans s') S'
 | rt w=>exact k⟩
theorem DS.ifT {c:Expr} {a b:List Stmt} (hc:DT X c (view ρ) true) (ha:DSs X a ρ o):DS X (.If c a b pos) ρ o:=fun H0 Fc=>PS.mono (ps_if (hc H0 Fc) (ha H0 Fc) zih) fun D σ H hz=>xa hz fun F S k=>by
 refine xg S.borrow fun s0 R=>?_;refine⟨_,R,fun H2 F2 s2 R2=>iteT ?_⟩
 refine xa (S.tested s2 R2) fun F3 s3 S3=>?_;exact tS.pre (H:=H) s3 S3 k
theorem DS.ifF {c:Expr} {a b:List Stmt} (hc:DT X c (view ρ) false) (hb:DSs X b ρ o):DS X (.If c a b pos) ρ o:=fun H0 Fc=>PS.mono (ps_if (hc H0 Fc) zih (hb H0 Fc)) fun D σ H hz=>xa hz fun F S k=>by
 refine xg S.borrow fun s0 R=>?_;refine⟨_,R,fun H2 F2 s2 R2=>iteF ?_⟩
 refine xa (S.tested s2 R2) fun F3 s3 S3=>?_;exact tS.pre (H:=H) s3 S3 k
def zag (c:RhoS->Option Bool) (b:RhoS->Option Out):Nat->RhoS->Option Out
 | 0,_=>none
 | n+1,ρ=>match c ρ with
  | none=>none
  | some false=>some (.nx ρ)
  | some true=>match b ρ with
   | none=>none
   | some (.rt w)=>some (.rt w)
   | some (.nx ρ')=>zag c b n ρ'
theorem DS.while_ {c:Expr} {body:List Stmt} {fc:RhoS->Option Bool} {fb:RhoS->Option Out} {n:Nat} (hp:PassesOwn (model X.prog X.w) X.A X.env X.xe) (hc:∀ ρ k,fc ρ=some k->DT X c (view ρ) k) (hb:∀ ρ o,fb ρ=some o->DSs X body ρ o)
  (hw:zag fc fb n ρ=some o):DS X (.While c body [] pos) ρ o:=fun H0 Fc=>by
 have pc:PT X c (fun σ H Q=>∃ ρ k,fc ρ=some k/\tDT X.K H0 Fc (view ρ) k σ H Q):=fun pins s σ H Q I hz=>xj hz fun ρ k h q=>hc ρ k h H0 Fc pins s σ H Q I q
 have pb:PSs X body (fun D σ H=>∃ ρ o,fb ρ=some o/\tS X.K H0 Fc ρ o D σ H):=fun pins s σ H D I hz=>xj hz fun ρ o h q=>hb ρ o h H0 Fc pins s σ H D I q
 refine PS.mono (ych hp pc pb) fun D σ H hz=>xa hz fun F S k=>?_
 refine⟨fun m σ' H'=>∃ ρ' F',Same F F'/\SR X.K H0 Fc F' H' σ' ρ'/\zag fc fb m ρ'=some o,⟨n,ρ,F,Same.refl _,S,hw⟩,?_⟩
 rintro m σ1 H1 ⟨ρ1,F1,s1,S1,h1⟩
 cases m with
 | zero=>cases h1
 | succ m=>
  unfold zag at h1;cases e:fc ρ1 with
  | none=>rw [e] at h1;cases h1
  | some kk=>
   rw [e] at h1;refine xg S1.borrow fun s0 R=>?_;refine⟨ρ1,kk,e,_,R,fun H2 F2 s2 R2=>?_⟩
   refine xa (S1.tested s2 R2) fun F3 s3 S3=>?_;cases kk with
   | false=>
    refine iteF ?_;cases h1;exact k σ1 H2 F3 (s1.trans s3) S3
   | true=>
    refine iteT ?_;cases e2:fb ρ1 with
    | none=>simp only [e2] at h1;cases h1
    | some o2=>
     simp only [e2] at h1;cases o2 with
     | rt w=>
      cases h1;exact⟨fun _ _=>False,fun _ _ z=>z.elim,ρ1,_,e2,F3,S3,k⟩
     | nx ρ2=>
      refine⟨fun σ' H'=>∃ F',Same F F'/\SR X.K H0 Fc F' H' σ' ρ2,fun σ' H' hz=>xa hz fun F' s' S'=>⟨m,Qa _,ρ2,F',s',S',h1⟩,ρ1,_,e2,F3,S3,?_⟩
      exact fun σ' H' F' s' S'=>⟨F',(s1.trans s3).trans s',S'⟩
end
end DL
namespace DL
open PySem L2 PyProof.Rows
section
variable {K:PySem.W.Frag} {H0 Fc F H:Hp} {σ:L2.St} {ρ:RhoS}
theorem SR.lay (S:SR K H0 Fc F H σ ρ) {a:Addr} (o:HO) (hn:H a=none):SR K H0 Fc (upd F a o) (upd H a o) σ ρ/\Same F (upd F a o):=by
 have hF:F a=none:=by
  cases q:F a with
  | none=>rfl
  | some u=>rw [S.sub a u q] at hn;cases hn
 have h0:H0 a=none:=S.same.free hn;have sF:=zcn (o:=o) hF;refine⟨⟨fun b u e=>?_,S.same.trans (zcn hn),S.base.trans sF,fun b u e=>?_,fun i d e=>?_,fun i l e=>?_,S.dis,S.len⟩,sF⟩
 ·by_cases hb:b=a
  ·subst hb;rw [B5] at e |-;exact e
  ·rw [zaa hb] at e |-;exact S.sub b u e
 ·by_cases hb:b=a
  ·subst hb;exact .inr h0
  ·rw [zaa hb] at e;exact S.new b u e
 ·refine xa (S.env i d e) fun v h1 h2=>?_;exact⟨v,h1,h2.mono sF⟩
 ·refine xm (S.own i l e) fun b xs p p1 p2 p3 p4=>?_;have hb:b≠a:=fun z=>by subst z;rw [p3] at hn;cases hn
  exact⟨b,xs,p,by rw [zaa hb];exact p1,p2,by rw [zaa hb];exact p3,p4.mono sF⟩
theorem SR.frz1 (S:SR K H0 Fc F H σ ρ) {a:Addr} {xs:List V} (hF:F a=none) (h0:H0 a=none) (hH:H a=some (.lst xs)) (no:¬ Owned σ ρ a):SR K H0 Fc (upd F a (.lst xs)) H σ ρ/\Same F (upd F a (.lst xs)):=by
 have sF:=zcn (o:=.lst xs) hF;refine⟨⟨fun b u e=>?_,S.same,S.base.trans sF,fun b u e=>?_,fun i d e=>?_,fun i l e=>?_,S.dis,S.len⟩,sF⟩
 ·by_cases hb:b=a
  ·subst hb;rw [B5] at e;cases e;exact hH
  ·rw [zaa hb] at e;exact S.sub b u e
 ·by_cases hb:b=a
  ·subst hb;exact .inr h0
  ·rw [zaa hb] at e;exact S.new b u e
 ·refine xa (S.env i d e) fun v h1 h2=>?_;exact⟨v,h1,h2.mono sF⟩
 ·refine xm (S.own i l e) fun b ys p p1 p2 p3 p4=>?_;have hb:b≠a:=fun z=>by subst z;exact no ⟨i,l,e,p⟩
  exact⟨b,ys,p,by rw [zaa hb];exact p1,p2,p3,p4.mono sF⟩
theorem SR.afterF (S:SR K H0 Fc F H σ ρ) {F2 H2:Hp} {w:W} {v:V} (s:Same (DL.borrow F H σ ρ) F2) (R:ER K H0 Fc F2 H2 σ (view ρ)) (q:RW K H0 F2 H2 w v) :
  ∃ F3,Same F F3/\SR K H0 Fc F3 H2 σ (DL.after w ρ)/\Den K F3 w.d v:=by
 have no:=Owned.not_after S s q;refine xh (S.after s R q) fun F3 s3 S3 q3=>?_;cases w with
 | val d=>exact⟨F3,s3,S3,q3⟩
 | new l=>
  refine xm q3 fun a xs e p1 p2 p3 p4=>?_;clear q3
  subst e;refine xg (S3.frz1 p1 p2 p3 (no l rfl a rfl)) fun S4 s4=>?_;exact⟨_,s3.trans s4,S4,Den.lst_mk (SqL.of B5) (p4.mono s4)⟩
end
theorem PG.mono {X:Cx} {tg:Expr} {t t':TG} (h:PG X tg t) (k:∀ v σ H Q,t' v σ H Q->t v σ H Q):PG X tg t':=fun pins s σ H v u Q I r q=>h pins s σ H v u Q I r (k v σ H Q q)
theorem PGs.mono {X:Cx} {tg:List Expr} {t t':TGs} (h:PGs X tg t) (k:∀ v σ H Q,t' v σ H Q->t v σ H Q):PGs X tg t':=fun pins s σ H v u Q I r q=>h pins s σ H v u Q I r (k v σ H Q q)
theorem PI.mono {X:Cx} {tg it:Expr} {t t':TI} (h:PI X tg it t) (k:∀ σ H R,t' σ H R->t σ H R):PI X tg it t':=fun pins s σ H R I q=>h pins s σ H R I (k σ H R q)
def DG (X:Cx) (tg:Expr) (d:D) (ρ ρ':RhoS):Prop:=∀ H0 Fc,PG X tg (fun v σ H Q=>∃ F,SR X.K H0 Fc F H σ ρ/\Den X.K F d v/\∀ σ',SR X.K H0 Fc F H σ' ρ'->Q σ' H)
def DGs (X:Cx) (tg:List Expr) (ds:List D) (ρ ρ':RhoS):Prop:=∀ H0 Fc,PGs X tg (fun vs σ H Q=>∃ F,SR X.K H0 Fc F H σ ρ/\DenL X.K F ds vs/\∀ σ',SR X.K H0 Fc F H σ' ρ'->Q σ' H)
section
variable {X:Cx} {st:Stmt} {rest:List Stmt} {ρ ρ' ρ2:RhoS} {o:Out} {w:W} {e t:Expr} {ts es:List Expr} {pos:Pos} {d:D} {ds:List D}
theorem SR.bindS {K:PySem.W.Frag} {H0 Fc F H:Hp} {σ:L2.St} (S:SR K H0 Fc F H σ ρ) {i:Nat} {v:V} (q:Den K F d v) (hi:i<ρ.length):SR K H0 Fc F H (σ.set i (some v)) (ρ.set i (some (.sh d))):=
 S.bind (w:=.val d) (RW.v q) hi fun l e=>by cases e
theorem DG.name {i:Nat} {x:Str} (hN:X.N.Nodup) (hi:X.N[i]? = some x) (hx:Loc X.env.scope x) (hf:X.fn x=true\/X.env.scope.names.lookup x=some .local) (hl:i<ρ.length):DG X (.Name x pos) d ρ (ρ.set i (some (.sh d))):=fun H0 Fc=>
 PG.mono (zwn hN hi hx hf) fun v σ H Q hz=>xh hz fun F S q k=>k _ (S.bindS q hl)
theorem DGs.nil:DGs X [] [] ρ ρ:=fun H0 Fc=>PGs.mono zwm fun vs σ H Q hz=>xh hz fun F S q k=>⟨q.inv_nil,k σ S⟩
theorem zbi {env:Env} (h:By t=true):assignEach (t::ts) env=(false,assign t env)::assignEach ts env:=by
 cases t <;> first | rfl | (cases h;done)
theorem zal {env:Env}:∀ {ts:List Expr},ts.all By=true->(assignEach ts env).length=ts.length/\(assignEach ts env).findIdx? (·.1)=none
 | [],_=>⟨rfl,rfl⟩
 | t::ts,h=>by
  rw [Qb,Zq] at h;refine xg (zal (env:=env) h.2) fun a b=>?_;rw [zbi h.1];refine⟨by rw [Zk,a,Zk],?_⟩
  rw [List.findIdx?_cons,b];rfl
theorem DGs.cons (h1:DG X t d ρ ρ') (h2:DGs X ts ds ρ' ρ2) (hs:By t=true):DGs X (t::ts) (d::ds) ρ ρ2:=fun H0 Fc=>
 PGs.mono (zrg (h1 H0 Fc) (h2 H0 Fc) (by rw [zbi hs];rfl)) fun vs σ H Q hz=>xh hz fun F S q k=>by
  refine xc q.inv_cons fun v r e q1 q2=>?_;exact⟨v,r,e,F,S,q1,fun σ' S'=>⟨F,S',q2,k⟩⟩
theorem DG.tup {k} (hc:X.calm=true) (h:DGs X ts ds ρ ρ') (hs:ts.all By=true) (hl:ds.length=ts.length):DG X (.Tuple ts k pos) (.tup ds) ρ ρ':=fun H0 Fc=>
 PG.mono (yfm (n:=ts.length) hc (h H0 Fc) (zal hs).1 (zal hs).2) fun v σ H Q hz=>xh hz fun F S q k=>by
  refine xc q.tup fun a xs e sq r=>?_;exact⟨a,xs,e,Same.tup S.sub sq,by rw [r.length];exact hl,F,S,r,k⟩
theorem DS.asgT (he:DE X e (view ρ) w) (hg:DG X t w.d (after w ρ) ρ') (hs:swapsWithSole [t] e pos.line X.env=pure false) (hw:swappedStores [t] e X.env=pure none) (hst:By t=true):DS X (.Assign [t] e pos) ρ (.nx ρ'):=fun H0 Fc=>
 PS.mono (yfl (he H0 Fc) (hg H0 Fc) hs hw (by rw [zbi hst];rfl)) fun D σ H hz=>xa hz fun F S k=>by
  refine xg S.borrow fun s0 R=>?_;refine⟨_,R,fun v H2 F2 s2 R2 q=>?_⟩
  refine xh (S.afterF s2 R2 q) fun F3 s3 S3 q3=>?_;exact⟨F3,S3,q3,fun σ' S'=>k σ' H2 F3 s3 S'⟩
theorem yjn {K:PySem.W.Frag} {H0 Fc F H:Hp} {σ:L2.St} (S:SR K H0 Fc F H σ ρ) {F2 H2:Hp} {vs:List V} (s:Same (DL.borrow F H σ ρ) F2) (R:ER K H0 Fc F2 H2 σ (view ρ)) (q:DenL K F2 ds vs) (f:lfL ds=true) :
  ∃ F3,Same F F3/\SR K H0 Fc F3 H2 σ ρ/\DenL K F3 ds vs:=by
 induction ds generalizing vs with
 | nil=>
  refine xa (S.tested s R) fun F3 a b=>?_;rw [q.inv_nil];exact⟨F3,a,b,DenL.nil⟩
 | cons d ds ih=>
  classical
  have key:∀ (d:D) (v:V),lf d=true->Den K F2 d v->Den K (fun a=>if Owned σ ρ a then none else F2 a) d v:=fun d v f q=>by
   have tups:∀ a xs,SqT K F2 a xs->SqT K (fun a=>if Owned σ ρ a then none else F2 a) a xs:=fun a xs h=>by
    rcases h with h | h
    ·refine .inl ?_;have hz:¬ Owned σ ρ a:=fun z=>by
      refine xD (S.owned_none z) fun _ _ ys r=>?_;have e:=s a _ (by unfold DL.borrow;rw [if_pos z];exact r);rcases h with h | ⟨o,h⟩
      ·rw [e] at h;cases h
      ·rw [e] at h;cases h
     rcases h with h | ⟨o,h⟩
     ·exact .inl (by show (if Owned σ ρ a then none else F2 a)=_;rw [if_neg hz];exact h)
     ·exact .inr ⟨o,by show (if Owned σ ρ a then none else F2 a)=_;rw [if_neg hz];exact h⟩
    ·exact .inr h
   exact Den.shrink tups d f q
  have keyL:∀ (l:List D) (xs:List V),lfL l=true->DenL K F2 l xs->DenL K (fun a=>if Owned σ ρ a then none else F2 a) l xs:=fun l=>by
   induction l with
   | nil=>intro xs _ q;rw [q.inv_nil];exact DenL.nil
   | cons d l ih2=>
    intro xs f q;simp only [lfL,Zq] at f;refine xc q.inv_cons fun v vs e q1 q2=>?_;subst e;exact DenL.cons (key d v f.1 q1) (ih2 vs f.2 q2)
  have sF:Same F (fun a=>if Owned σ ρ a then none else F2 a):=fun a o e=>by
   have hz:¬ Owned σ ρ a:=fun z=>by rw [(S.owned_none z).1] at e;cases e
   show (if Owned σ ρ a then none else F2 a)=some o;rw [if_neg hz];exact s a o (S.borrow.1 a o e)
  have hsub:∀ a o,(if Owned σ ρ a then none else F2 a)=some o->F2 a=some o:=fun a o e=>by
   by_cases hz:Owned σ ρ a
   ·rw [if_pos hz] at e;cases e
   ·rw [if_neg hz] at e;exact e
  refine⟨_,sF,⟨fun a o e=>R.sub a o (hsub a o e),R.same,S.base.trans sF,fun a o e=>R.new a o (hsub a o e),fun i d e=>?_,fun i l e=>?_,S.dis,S.len⟩,keyL _ _ f q⟩
  ·refine xa (S.env i d e) fun v p q=>?_;exact⟨v,p,q.mono sF⟩
  ·refine xm (S.own i l e) fun a xs p p1 p2 p3 p4=>?_;have hz:Owned σ ρ a:=⟨i,l,e,p⟩;refine⟨a,xs,p,if_pos hz,p2,?_,p4.mono sF⟩
   exact R.sub _ _ (s a _ (by unfold DL.borrow;rw [if_pos hz];exact p3))
theorem DS.par {i j:Nat} {x y:Str} {a b:Expr} {px py pt:Pos} {kt k2 pt2} {d1 d2:D} (hc:X.calm=true) (hN:X.N.Nodup) (hi:X.N[i]? = some x) (hj:X.N[j]? = some y) (hij:i≠j)
  (hx:X.env.scope.names.lookup x=some .local) (hy:X.env.scope.names.lookup y=some .local) (ha:DA X [a,b] (view ρ) [d1,d2]) (hil:i<ρ.length) (hjl:j<ρ.length) (f1:lf d1=true) (f2:lf d2=true)
  (hw:swappedStores [.Tuple [.Name x px,.Name y py] kt pt] (.Tuple [a,b] k2 pt2) X.env=pure (some [x,y])) :
  DS X (.Assign [.Tuple [.Name x px,.Name y py] kt pt] (.Tuple [a,b] k2 pt2) pos) ρ (.nx ((ρ.set i (some (.sh d1))).set j (some (.sh d2)))):=fun H0 Fc=>
 PS.mono (ps_par hc hN hi hj hij hx hy (ha H0 Fc) hw (by rfl)) fun D σ H hz=>xa hz fun F S k=>by
  refine xg S.borrow fun s0 R=>?_;refine⟨_,R,fun vs H2 F2 s2 R2 q=>?_⟩
  refine xh (yjn S s2 R2 q (by simp [lfL,f1,f2])) fun F3 s3 S3 q3=>?_;refine xc q3.two fun v u e q1 q2=>?_;refine⟨v,u,e,k _ H2 F3 s3 ((S3.bindS q1 hil).bindS q2 (by rw [Wh];exact hjl))⟩
def Yields (K:PySem.W.Frag) (F H:Hp) (d:D) (x:V) (H':Hp):Prop:=(H'=H/\Den K F d x)\/∃ p xs ds,H p=none/\H'=upd H p (.tup xs)/\x=.ref p/\d=.tup ds/\DenL K F ds xs
def Walks (K:PySem.W.Frag) (F:Hp) (J:It) (items:List D):Prop:=∀ i H,Same F H->(∀ d,items[i]? = some d->J.go i H/\∀ x H',J.yld i H x H'->Yields K F H d x H')/\(items.length<=i->J.stop i H)
def DI (X:Cx) (tg iter:Expr) (ρ:RhoS) (items:List D) (ρ':RhoS):Prop:=∀ H0 Fc,PI X tg iter (fun σ H R=>∃ F,SR X.K H0 Fc F H σ ρ/\∀ J H' F',Same F F'->SR X.K H0 Fc F' H' σ ρ'->Walks X.K F' J items->R J H')
def forN (bt:D->RhoS->Option RhoS) (b:RhoS->Option Out):List D->RhoS->Option Out
 | [],ρ=>some (.nx ρ)
 | d::l,ρ=>match bt d ρ with
  | none=>none
  | some ρ1=>match b ρ1 with
   | none=>none
   | some (.rt w)=>some (.rt w)
   | some (.nx ρ2)=>forN bt b l ρ2
theorem DS.for_ {tg iter:Expr} {body:List Stmt} {bt:D->RhoS->Option RhoS} {fb:RhoS->Option Out} {items:List D} (hp:PassesOwn (model X.prog X.w) X.A X.env X.xe) (hc:X.calm=true) (hi:DI X tg iter ρ items ρ')
  (hg:∀ d ρ ρ',bt d ρ=some ρ'->DG X tg d ρ ρ') (hb:∀ ρ o,fb ρ=some o->DSs X body ρ o) (hw:forN bt fb items ρ'=some o) (hs:∀ x,foldedSetIterable iter X.env x=pure x):DS X (.For tg iter body [] pos) ρ o:=fun H0 Fc=>by
 have pg:PG X tg (fun v σ H Q=>∃ d ρ ρ',bt d ρ=some ρ'/\∃ F,SR X.K H0 Fc F H σ ρ/\Den X.K F d v/\∀ σ',SR X.K H0 Fc F H σ' ρ'->Q σ' H):=fun pins s σ H v u Q I r hz=>xn hz fun d ρ ρ' h q=>hg d ρ ρ' h H0 Fc pins s σ H v u Q I r q
 have pb:PSs X body (fun D σ H=>∃ ρ o,fb ρ=some o/\tS X.K H0 Fc ρ o D σ H):=fun pins s σ H D I hz=>xj hz fun ρ o h q=>hb ρ o h H0 Fc pins s σ H D I q
 refine PS.mono (ps_for hp hc (hi H0 Fc) pg pb hs) fun D σ H hz=>xa hz fun F S k=>⟨F,S,fun J H1 F1 s1 S1 wk=>?_⟩
 refine⟨fun i m σ' H'=>m=items.length-i/\i<=items.length/\∃ ρ2 F2,Same F1 F2/\SR X.K H0 Fc F2 H' σ' ρ2/\forN bt fb (items.drop i) ρ2=some o,⟨_,rfl,Yc _,ρ',F1,Same.refl _,S1,hw⟩,?_⟩
 rintro i m σ2 H2 ⟨rfl,hil,ρ2,F2,s2,S2,h2⟩
 have wk':=wk i H2 (s2.trans S2.sub);by_cases hlt:i<items.length
 ·have hd:items[i]? = some items[i]:=Ze hlt;rw [Yd hlt] at h2;refine xg (wk'.1 _ hd) fun go yl=>?_;unfold forN at h2;cases e1:bt items[i] ρ2 with
  | none=>rw [e1] at h2;cases h2
  | some ρ3=>
   simp only [e1] at h2;cases e2:fb ρ3 with
   | none=>simp only [e2] at h2;cases h2
   | some o2=>
    simp only [e2] at h2;have item:∀ x H',J.yld i H2 x H'->∃ F3,Same F2 F3/\SR X.K H0 Fc F3 H' σ2 ρ2/\Den X.K F3 items[i] x:=fun x H' y=>by
     rcases yl x H' y with⟨e,q⟩ | ⟨p,xs,ds,hp,e,ex,ed,q⟩
     ·subst e;exact⟨F2,Same.refl _,S2,q.mono s2⟩
     ·subst e ex;refine xg (S2.lay (.tup xs) hp) fun S3 s3=>?_;refine⟨_,s3,S3,?_⟩
      rw [ed];exact Den.tup_mk (SqT.of B5) ((q.mono s2).mono s3)
    cases o2 with
    | rt w=>
     cases h2;refine .inr ⟨go,fun _ _=>False,fun _ _ z=>z.elim,fun x H' y=>?_⟩;refine xh (item x H' y) fun F3 s3 S3 q3=>?_;exact⟨_,ρ2,ρ3,e1,F3,S3,q3,fun σ' S'=>⟨ρ3,_,e2,F3,S',k⟩⟩
    | nx ρ4=>
     refine .inr ⟨go,fun σ' H'=>∃ F',Same F1 F'/\SR X.K H0 Fc F' H' σ' ρ4,fun σ' H' hz=>xa hz fun F' s' S'=>⟨items.length-(i+1),by omega,rfl,hlt,ρ4,F',s',S',h2⟩,fun x H' y=>?_⟩;refine xh (item x H' y) fun F3 s3 S3 q3=>?_;exact⟨_,ρ2,ρ3,e1,F3,S3,q3,fun σ' S'=>⟨ρ3,_,e2,F3,S',fun σ5 H5 F5 s5 S5=>⟨F5,(s2.trans s3).trans s5,S5⟩⟩⟩
 ·have e:i=items.length:=by omega
  subst e;rw [Bu] at h2;cases h2;refine .inl ⟨wk'.2 (Zg _),?_⟩;exact k σ2 H2 F2 (s1.trans s2) S2
theorem DI.list {tg:Expr} {l:List D} (he:DE X e (view ρ) w) (hl:w.d=.lst l):DI X tg e ρ l (after w ρ):=fun H0 Fc=>PI.mono (zpf (he H0 Fc)) fun σ H R hz=>xa hz fun F S k=>by
 refine xg S.borrow fun s0 Re=>?_;refine⟨_,Re,fun v H2 F2 s2 R2 q=>?_⟩
 refine xh (S.afterF s2 R2 q) fun F3 s3 S3 q3=>?_;rw [hl] at q3;refine xc q3.lst fun a xs e1 sq r=>?_;refine⟨a,e1,⟨xs,S3.sub.seq sq⟩,k _ H2 F3 s3 S3 fun i H' sH=>⟨fun d hd=>?_,fun hle=>⟨xs,sH.seq sq,by rw [r.length];exact hle⟩⟩⟩
 refine xa (r.get hd) fun y h1 h2=>?_;refine⟨⟨xs,y,sH.seq sq,h1⟩,fun x H'' hz=>xg hz fun ey yy=>?_⟩
 have:=yy xs (sH.seq sq)
 rw [h1] at this;cases this;exact .inl ⟨ey,h2⟩
theorem DI.tup {tg:Expr} {l:List D} (he:DE X e (view ρ) w) (hl:w.d=.tup l):DI X tg e ρ l (after w ρ):=fun H0 Fc=>PI.mono (zwl (he H0 Fc)) fun σ H R hz=>xa hz fun F S k=>by
 refine xg S.borrow fun s0 Re=>?_;refine⟨_,Re,fun v H2 F2 s2 R2 q=>?_⟩
 refine xh (S.afterF s2 R2 q) fun F3 s3 S3 q3=>?_;rw [hl] at q3;refine xc q3.tup fun a xs e1 sq r=>?_;refine⟨a,e1,⟨xs,Same.tup S3.sub sq⟩,k _ H2 F3 s3 S3 fun i H' sH=>⟨fun d hd=>?_,fun hle=>⟨xs,Same.tup sH sq,by rw [r.length];exact hle⟩⟩⟩
 refine xa (r.get hd) fun y h1 h2=>?_;refine⟨⟨xs,y,Same.tup sH sq,h1⟩,fun x H'' hz=>xg hz fun ey yy=>?_⟩
 have:=yy xs (Same.tup sH sq)
 rw [h1] at this;cases this;exact .inl ⟨ey,h2⟩
def zbk (lo:Int) (n:Nat):List D:=(List.range n).map fun (i:Nat)=>D.int (lo+(i:Int))
theorem zco {K:PySem.W.Frag} {F:Hp} {lo:Int} {n:Nat}:Walks K F (Itr lo n) (zbk lo n):=fun i H sH=>by
 unfold zbk;refine⟨fun d hd=>?_,fun hle=>?_⟩
 ·rw [Zj] at hd;by_cases hlt:i<n
  ·rw [G0 hlt] at hd;cases hd;exact⟨hlt,fun x H' hz=>xg hz fun e1 e2=>.inl ⟨e1,by rw [e2];exact Den.int_mk⟩⟩
  ·rw [Yz (by rw [Qw];omega)] at hd;cases hd
 ·rw [Zd,Qw] at hle;exact hle
theorem DI.range1 {tg a:Expr} {p:Pos} {n:Int} (hg:Gl X "range") (hm:X.mg "range" = none) (ha:DA X [a] (view ρ) [.int n]) (hs:By a=true) (h1 : -(2^62)<=n) (h2:n<2^62):DI X tg (.Call (.Name "range" p) [a] [] pos) ρ (zbk 0 n.toNat) ρ:=fun H0 Fc=>
 PI.mono (znn hg hm (ha H0 Fc) (B6 hs)) fun σ H R hz=>xa hz fun F S k=>by
  refine xg S.borrow fun s0 Re=>?_;refine⟨_,Re,fun vs H2 F2 s2 R2 q=>?_⟩
  refine xa (S.tested s2 R2) fun F3 s3 S3=>?_;refine xa q.one fun v e q=>?_;rw [q.int] at e;exact⟨n,e,h1,h2,k _ H2 F3 s3 S3 zco⟩
theorem DI.range2 {tg a b:Expr} {p:Pos} {m n:Int} (hg:Gl X "range") (hm:X.mg "range" = none) (ha:DA X [a,b] (view ρ) [.int m,.int n]) (hs:By a=true) (hs2:By b=true) (h : -(2^62)<=m/\m<2^62 /\ -(2^62)<=n/\n<2^62) :
  DI X tg (.Call (.Name "range" p) [a,b] [] pos) ρ (zbk m (n-m).toNat) ρ:=fun H0 Fc=>
 PI.mono (znm hg hm (ha H0 Fc) (by rw [B6 hs,B6 hs2];rfl) (by rw [B6 hs2];rfl)) fun σ H R hz=>xa hz fun F S k=>by
  refine xg S.borrow fun s0 Re=>?_;refine⟨_,Re,fun vs H2 F2 s2 R2 q=>?_⟩
  refine xa (S.tested s2 R2) fun F3 s3 S3=>?_;refine xc q.two fun v u e q1 q2=>?_;rw [q1.int,q2.int] at e;exact⟨m,n,e,h,k _ H2 F3 s3 S3 zco⟩
end
end DL
namespace DL
open PySem L2 PyProof.Rows
section
variable {X:Cx} {elts:List Expr} {x1:Nat} {tp:Pos}
end
end DL
namespace DL
open PySem L2 PyProof.Rows
section
variable {prog:Program} {w:World} {A:Around} {E:Value->Shared->Prop} {h:Heap} {g:Array GenState} {d:Drawn} {t:Nat} {os:OsState} {a C:Addr} {o:Obj} {vs:Array Value} {K:PySem.W.Frag}
structure XCls (K:PySem.W.Frag) (C:Addr):Prop where
 cls:PySem.W.isClsIn K C=true
 typ:PySem.W.typeIn K (.ref C)=some (.type "type")
 ga:PySem.W.findIn K (.ref C) "__getattribute__" = some (some (.builtin "BaseException.__getattribute__"))
 noga:PySem.W.findIn K (.ref C) "__getattr__" = some none
 at_:PySem.W.findIn K (.ref C) "__class__" = some (some (.builtin "object.__class__"))
 bexc:PySem.W.subIn K (.ref C) (.type "BaseException")=some true
 obj:PySem.W.subIn K (.ref C) (.type "object")=some true
end
end DL
namespace DL
open PySem L2 PyProof.Rows
section
variable {P:Program} {w:World} {H H':Hp} {h h':Heap} {a:Addr} {o:HO}
theorem ObjOk.ex (x:ObjOk P w H h a o):∃ u,h.get? a=some u:=by
 cases o with
 | lst xs=>refine xx x fun _ _ _ _ e=>?_;clear x;exact⟨_,e⟩
 | tup xs=>obtain⟨_,_,_,o,e,_⟩:=x;exact⟨_,e⟩
 | dK kvs=>obtain⟨_,_,_,_,o,_,_,e,_⟩:=x;exact⟨_,e⟩
 | dT kvs=>obtain⟨_,_,_,_,o,_,_,e,_⟩:=x;exact⟨_,e⟩
 | set S n=>refine xG x fun o _ _ _ e _=>?_;clear x;exact⟨_,e⟩
 | ins C dx fs=>refine xv x fun _ _ _ e _=>?_;clear x;exact⟨_,e⟩
 | own y=>refine xb x fun _ e=>?_;clear x;exact⟨_,e⟩
 | xd fs=>obtain⟨_,⟨_,_,_,e,_⟩,_⟩:=x;exact⟨_,e⟩
 | rng lo hi=>refine xq x fun _ _ _ e=>?_;clear x;exact⟨_,e⟩
 | frz ob u=>refine xg x fun e _=>?_;clear x;exact⟨_,e⟩
 | tbl ps=>exact⟨_,(show h.get? a=some _ from x)⟩
 | met f y=>exact⟨_,(show h.get? a=some _ from x)⟩
 | ext φ=>obtain⟨_,⟨_,e⟩,_⟩:=x;exact⟨_,e⟩
end
section
variable {fs:List Addr} {H H':Hp} {h0 h h1 B h':Heap}
end
def CX1 (P:Program) (w:World):CXT:=fun outer H s E e s'=>∃ (ea C:Addr) (a0:Value) (B:Heap) (H':Hp),e=.ref ea/\s'.os=s.os/\AllBare s'.gens/\Un (frs outer) [] H H' s.heap s'.heap/\HOk P w H' s'.heap /\
 Heap.FlyingW B outer ea (.ref C) a0 s'.heap/\(∀ b o,s.heap.get? b=some o->b∉frs outer->∃ o',B.get? b=some o')/\(∀ b u,H' b=some u->∃ o',B.get? b=some o')/\E (.ref C) none H'
section
variable {X:Cx} {pins:List (Addr×Obj)} {σ:L2.St} {H:Hp} {s:Shared} {E:XK} {E':Value->Shared->Prop}
end
end DL
namespace DL
open PySem L2 PyProof.Rows
section
variable {X:Cx} {pins:List (Addr×Obj)} {σ:L2.St} {H:Hp} {s:Shared} {E:XK} {E':Value->Shared->Prop}
end
end DL
namespace DL
open PySem L2 PyProof.Rows
abbrev zhn:List Str:=["FitError", "NoNumber", "NoShape", "NoSize"]
def subX (x y:Str):Bool:=decide (x=y) || decide (y=("FitError" : Str)) || decide (y=("ValueError" : Str))
structure XFacts (K:PySem.W.Frag) (mg:Str->Option Value):Prop where
 ve:mg "ValueError" = none
 cl:∀ y∈zhn,∃ C,PySem.W.nsIn K mainGlobals y=some (some (.ref C))/\mg y=some (.ref C)/\XCls K C
 sub:∀ x∈zhn,∀ y∈zhn,∀ C C',PySem.W.nsIn K mainGlobals x=some (some (.ref C))->PySem.W.nsIn K mainGlobals y=some (some (.ref C'))->PySem.W.kitOne K (.ref C) (.ref C')=some (subX x y)
 subV:∀ x∈zhn,∀ C,PySem.W.nsIn K mainGlobals x=some (some (.ref C))->PySem.W.kitOne K (.ref C) (.type "ValueError")=some true
 exm:∀ x∈zhn,∀ C C',PySem.W.nsIn K mainGlobals x=some (some (.ref C))->PySem.W.nsIn K mainGlobals "FitError" = some (some (.ref C'))->PySem.W.exmOne K (.ref C) (.ref C')=some true
def spR (K:PySem.W.Frag) (n:Nat) (φ:List D->Option W):Sp:=fun vs H Q E=>∃ F ds x C,Same F H/\DenL K F ds vs/\ds.length=n/\φ ds=some (.val (.exc x))/\PySem.W.nsIn K mainGlobals x=some (some (.ref C)) /\
 ∀ H' F',Same H H'->Same F F'->Same F' H'->(∀ a o,F' a=some o->F a=some o\/H a=none)->E (.ref C) none H'
def yly (X:Cx) (x:Str) (n:Nat) (φ:List D->Option W):Prop:=∃ (k:Nat) (f:Addr) (fd:FuncData) (ps:List Str),
 FnOk X.prog X.w X.K X.mg X.base (CX1 X.prog X.w) k f fd ps (spR X.K n φ)/\Room k X.A/\X.mg x=some (.ref f)/\PySem.W.keepIn X.K (.ref f)=true/\Binds X.K fd ps []
section
variable {X:Cx} {pins:List (Addr×Obj)} {σ:L2.St} {H:Hp} {s:Shared} {E':Value->Shared->Prop} {e:Expr} {es:List Expr} {pos:Pos}
end
section
variable {X:Cx} {e:Expr} {es:List Expr} {ρ:RhoS} {pos:Pos} {ds:List D}
end
end DL
namespace DL
open PySem L2 PyProof.Rows
def isX (ys:List Str):D->Option Bool
 | .exc x=>if x∈zhn then some (ys.any (subX x)) else none
 | .non=>some false
 | _=>none
section
variable {X:Cx} {a e:Expr} {ρ:Rho} {pos:Pos}
end
end DL
namespace DL
open PySem L2 PyProof.Rows
section
variable {X:Cx} {pins:List (Addr×Obj)} {σ:L2.St} {H:Hp} {s:Shared}
end
end DL
namespace DL
open PySem L2 PyProof.Rows
mutual
def toP:D->PyData
 | .non=>.none
 | .bl b=>.bool b
 | .int i=>.int i
 | .tup l=>.tuple (toPs l)
 | .lst l=>.list (toPs l)
 | .exc _=>.none
def toPs:List D->List PyData
 | []=>[]
 | d::l=>toP d::toPs l
end
mutual
def dOk:Nat->D->Bool
 | _,.non=>true
 | _,.bl _=>true
 | _,.int _=>true
 | 0,.tup _=>false
 | n+1,.tup l=>dOkL n l
 | 0,.lst _=>false
 | n+1,.lst l=>dOkL n l
 | _,.exc _=>false
def dOkL:Nat->List D->Bool
 | _,[]=>true
 | n,d::l=>dOk n d && dOkL n l
end
mutual
def eqD:D->D->Bool
 | .non,.non=>true
 | .bl a,.bl b=>a == b
 | .bl a,.int j=>(if a then 1 else 0) == j
 | .int i,.bl b=>i == (if b then 1 else 0)
 | .int i,.int j=>i == j
 | .tup l,.tup m=>eqL l m
 | .lst l,.lst m=>eqL l m
 | _,_=>false
def eqL:List D->List D->Bool
 | [],[]=>true
 | d::l,e::m=>eqD d e && eqL l m
 | _,_=>false
end
mutual
theorem ydp:∀ (n m:Nat) (d e:D),dOk n d=true->dOk m e=true->PyData.eqv (toP d) (toP e)=eqD d e
 | n,m,.tup l,.tup k,h1,h2=>by
  cases n with
  | zero=>simp only [dOk] at h1;cases h1
  | succ n=>
   cases m with
   | zero=>simp only [dOk] at h2;cases h2
   | succ m=>
    simp only [dOk] at h1 h2;simp only [toP,PyData.eqv,eqD];exact eqv_L n m l k h1 h2
 | n,m,.lst l,.lst k,h1,h2=>by
  cases n with
  | zero=>simp only [dOk] at h1;cases h1
  | succ n=>
   cases m with
   | zero=>simp only [dOk] at h2;cases h2
   | succ m=>
    simp only [dOk] at h1 h2;simp only [toP,PyData.eqv,eqD];exact eqv_L n m l k h1 h2
 | n,m,.exc _,_,h1,_=>by simp only [dOk] at h1;cases h1
 | n,m,d,.exc _,_,h2=>by simp only [dOk] at h2;cases h2
 | n,m,.non,.non,_,_=>by simp only [toP,PyData.eqv,eqD]
 | n,m,.non,.bl _,_,_=>by simp only [toP,PyData.eqv,eqD]
 | n,m,.non,.int _,_,_=>by simp only [toP,PyData.eqv,eqD]
 | n,m,.non,.tup _,_,_=>by simp only [toP,PyData.eqv,eqD]
 | n,m,.non,.lst _,_,_=>by simp only [toP,PyData.eqv,eqD]
 | n,m,.bl _,.non,_,_=>by simp only [toP,PyData.eqv,eqD]
 | n,m,.bl _,.bl _,_,_=>by simp only [toP,PyData.eqv,eqD]
 | n,m,.bl _,.int _,_,_=>by simp only [toP,PyData.eqv,eqD]
 | n,m,.bl _,.tup _,_,_=>by simp only [toP,PyData.eqv,eqD]
 | n,m,.bl _,.lst _,_,_=>by simp only [toP,PyData.eqv,eqD]
 | n,m,.int _,.non,_,_=>by simp only [toP,PyData.eqv,eqD]
 | n,m,.int _,.bl _,_,_=>by simp only [toP,PyData.eqv,eqD]
 | n,m,.int _,.int _,_,_=>by simp only [toP,PyData.eqv,eqD]
 | n,m,.int _,.tup _,_,_=>by simp only [toP,PyData.eqv,eqD]
 | n,m,.int _,.lst _,_,_=>by simp only [toP,PyData.eqv,eqD]
 | n,m,.tup _,.non,_,_=>by simp only [toP,PyData.eqv,eqD]
 | n,m,.tup _,.bl _,_,_=>by simp only [toP,PyData.eqv,eqD]
 | n,m,.tup _,.int _,_,_=>by simp only [toP,PyData.eqv,eqD]
 | n,m,.tup _,.lst _,_,_=>by simp only [toP,PyData.eqv,eqD]
 | n,m,.lst _,.non,_,_=>by simp only [toP,PyData.eqv,eqD]
 | n,m,.lst _,.bl _,_,_=>by simp only [toP,PyData.eqv,eqD]
 | n,m,.lst _,.int _,_,_=>by simp only [toP,PyData.eqv,eqD]
 | n,m,.lst _,.tup _,_,_=>by simp only [toP,PyData.eqv,eqD]
theorem eqv_L:∀ (n m:Nat) (l k:List D),dOkL n l=true->dOkL m k=true->PyData.eqvAll (toPs l) (toPs k)=eqL l k
 | n,m,[],[],_,_=>by simp only [toPs,PyData.eqvAll,eqL]
 | n,m,d::l,e::k,h1,h2=>by
  simp only [dOkL,Zq] at h1 h2;simp only [toPs,PyData.eqvAll,eqL];rw [ydp n m d e h1.1 h2.1,eqv_L n m l k h1.2 h2.2]
 | n,m,[],_::_,_,_=>by simp only [toPs,PyData.eqvAll,eqL]
 | n,m,_::_,[],_,_=>by simp only [toPs,PyData.eqvAll,eqL]
end
mutual
theorem yda:∀ (n:Nat) (d:D),dOk n d=true->(toP d).canLay0=true/\(toP d).depth<=n
 | _,.non,_=>by simp [toP,PyData.canLay0,PyData.depth]
 | _,.bl _,_=>by simp [toP,PyData.canLay0,PyData.depth]
 | _,.int _,_=>by simp [toP,PyData.canLay0,PyData.depth]
 | 0,.tup _,h=>by simp only [dOk] at h;cases h
 | n+1,.tup l,h=>by
  simp only [dOk] at h;refine xg (lay_L n l h) fun a b=>?_;simp only [toP,PyData.canLay0,PyData.depth];exact⟨a,by omega⟩
 | 0,.lst _,h=>by simp only [dOk] at h;cases h
 | n+1,.lst l,h=>by
  simp only [dOk] at h;refine xg (lay_L n l h) fun a b=>?_;simp only [toP,PyData.canLay0,PyData.depth];exact⟨a,by omega⟩
 | _,.exc _,h=>by simp only [dOk] at h;cases h
theorem lay_L:∀ (n:Nat) (l:List D),dOkL n l=true->PyData.canLayAll0 (toPs l)=true/\PyData.depthAll (toPs l)<=n
 | _,[],_=>by simp [toPs,PyData.canLayAll0,PyData.depthAll]
 | n,d::l,h=>by
  simp only [dOkL,Zq] at h;refine xg (yda n d h.1) fun a b=>?_;refine xg (lay_L n l h.2) fun c e=>?_;simp only [toPs,PyData.canLayAll0,PyData.depthAll,Zq];exact⟨⟨a,c⟩,by omega⟩
end
section
variable {X:Cx} {pins:List (Addr×Obj)} {σ:L2.St} {H F:Hp} {s:Shared}
mutual
theorem zdf (I:Inv X pins σ H s) (sF:Same F H):∀ (n:Nat) (d:D) {v:V} {u:Value},dOk n d=true->Den X.K F d v->RelV v u->∃ as,Reads s.heap u (toP d) as
 | _,.non,v,u,_,h,r=>by rw [h.non] at r;cases (show u=Value.none from r);exact⟨_,.none⟩
 | _,.bl b,v,u,_,h,r=>by rw [h.bl] at r;cases (show u=Value.bool b from r);exact⟨_,.bool b⟩
 | _,.int i,v,u,_,h,r=>by
  rw [h.int] at r;refine xb ((show ∃ t,u=Value.int i t from r)) fun t e=>?_;subst e;exact⟨_,.int i t⟩
 | 0,.tup _,_,_,h,_,_=>by simp only [dOk] at h;cases h
 | n+1,.tup l,v,u,hd,h,r=>by
  simp only [dOk] at hd;refine xc h.tup fun a xs e sq q=>?_;subst e;cases (show u=Value.ref a from r)
  obtain⟨its,rs,⟨o,h1,h2,k,h3⟩,_⟩:=I.tuple (Same.tup sF sq)
  refine xb (reads_L I sF n l hd q rs) fun as ra=>?_;exact⟨_,.tuple h1 h2 h3 (by simpa using ra)⟩
 | 0,.lst _,_,_,h,_,_=>by simp only [dOk] at h;cases h
 | n+1,.lst l,v,u,hd,h,r=>by
  simp only [dOk] at hd;refine xc h.lst fun a xs e sq q=>?_;subst e;cases (show u=Value.ref a from r)
  obtain⟨its,rs,⟨o,k,h1,h2,h3⟩,_⟩:=I.list (sF.seq sq)
  refine xb (reads_L I sF n l hd q rs) fun as ra=>?_;exact⟨_,.list h1 h2 h3.2 (by simpa using ra)⟩
 | _,.exc _,_,_,h,_,_=>by simp only [dOk] at h;cases h
theorem reads_L (I:Inv X pins σ H s) (sF:Same F H):∀ (n:Nat) (l:List D) {xs:List V} {us:List Value},dOkL n l=true->DenL X.K F l xs->Vals xs us->∃ as,ReadsAll s.heap us (toPs l) as
 | _,[],xs,us,_,h,r=>by
  rw [h.inv_nil] at r;cases r;exact⟨_,.nil⟩
 | n,d::l,xs,us,hd,h,r=>by
  simp only [dOkL,Zq] at hd;refine xc h.inv_cons fun v vs e q1 q2=>?_;subst e;cases r with
  | cons r1 r2=>
   refine xb (zdf I sF n d hd.1 q1 r1) fun as ra=>?_;refine xb (reads_L I sF n l hd.2 q2 r2) fun bs rb=>?_;exact⟨_,.cons ra rb⟩
end
end
section
variable {X:Cx}
theorem zgz {d:D} (h:dOk 50 d=true):SeqAt.shaped (toP d)=true:=by
 refine xg (yda 50 d h) fun a b=>?_;unfold SeqAt.shaped;rw [a,V9];exact decide_eq_true (by omega)
def ycd (K:PySem.W.Frag) (x y:D) (k:Bool):R2:=fun v u H Q=>∃ F,Same F H/\Den K F x v/\Den K F y u/\Q (.bl k) H
theorem zyx {x y:D} (hu:X.A.units+64<cLine) (hx:dOk 50 x=true) (hy:dOk 50 y=true):zde X .Eq x y (eqD x y):=by
 refine⟨ycd X.K x y (eqD x y),?_,fun H F v u Q s qv qu q=>⟨F,s,qv,qu,q⟩⟩
 intro pins s σ H v u vv uu Q I r1 r2 ⟨F,sF,q1,q2,q⟩;refine xb (zdf I sF 50 x hx q1 r1) fun as ra=>?_;refine xb (zdf I sF 50 y hy q2 r2) fun bs rb=>?_;refine eq_dataH ra rb (zgz hx) (zgz hy) hu ?_;rw [ydp 50 50 x y hx hy];exact⟨.bl _,H,I,rfl,q⟩
theorem zyw {x y:D} (hu:X.A.units+64<cLine) (hx:dOk 50 x=true) (hy:dOk 50 y=true):zde X .NotEq x y (!eqD x y):=by
 refine⟨ycd X.K x y (!eqD x y),?_,fun H F v u Q s qv qu q=>⟨F,s,qv,qu,q⟩⟩
 intro pins s σ H v u vv uu Q I r1 r2 ⟨F,sF,q1,q2,q⟩;refine xb (zdf I sF 50 x hx q1 r1) fun as ra=>?_;refine xb (zdf I sF 50 y hy q2 r2) fun bs rb=>?_;refine ne_dataH ra rb (zgz hx) (zgz hy) hu ?_;rw [ydp 50 50 x y hx hy];exact⟨.bl _,H,I,rfl,q⟩
theorem yls {x:D} (hx:dOk 50 x=true):∀ (l:List D),dOkL 49 l=true->((toPs l).any fun y=>PyData.eqv y (toP x))=l.any fun y=>eqD y x
 | [],_=>rfl
 | d::l,h=>by
  simp only [dOkL,Zq] at h;simp only [toPs,List.any_cons];rw [ydp 49 50 d x h.1 hx,yls hx l h.2]
theorem ykx {x:D} {l:List D} (hu:X.A.units+64<cLine) (hx:dOk 50 x=true) (hy:dOkL 49 l=true):zde X .In x (.lst l) (l.any fun y=>eqD y x):=by
 refine⟨ycd X.K x (.lst l) _,?_,fun H F v u Q s qv qu q=>⟨F,s,qv,qu,q⟩⟩
 intro pins s σ H v u vv uu Q I r1 r2 ⟨F,sF,q1,q2,q⟩;refine xb (zdf I sF 50 x hx q1 r1) fun as ra=>?_;refine xb (zdf I sF 50 (.lst l) (by simp only [dOk];exact hy) q2 r2) fun bs rb=>?_;simp only [toP] at rb;refine xg (yda 50 x hx) fun a b=>?_;refine xg (lay_L 49 l hy) fun a2 b2=>?_;refine SeqAt.in_list_reads rb ra a2 a (by have:=Nat.min_le_right (PyData.depthAll (toPs l)) (toP x).depth;omega) ?_;rw [yls hx l hy];exact⟨.bl _,H,I,rfl,q⟩
theorem ydy {x:D} {l:List D} (hu:X.A.units+64<cLine) (hx:dOk 50 x=true) (hy:dOkL 49 l=true):zde X .NotIn x (.lst l) (!(l.any fun y=>eqD y x)):=by
 refine⟨ycd X.K x (.lst l) _,?_,fun H F v u Q s qv qu q=>⟨F,s,qv,qu,q⟩⟩
 intro pins s σ H v u vv uu Q I r1 r2 ⟨F,sF,q1,q2,q⟩;refine xb (zdf I sF 50 x hx q1 r1) fun as ra=>?_;refine xb (zdf I sF 50 (.lst l) (by simp only [dOk];exact hy) q2 r2) fun bs rb=>?_;simp only [toP] at rb;refine xg (yda 50 x hx) fun a b=>?_;refine xg (lay_L 49 l hy) fun a2 b2=>?_;refine SeqAt.notIn_list_reads rb ra a2 a (by have:=Nat.min_le_right (PyData.depthAll (toPs l)) (toP x).depth;omega) ?_;rw [yls hx l hy];exact⟨.bl _,H,I,rfl,q⟩
end
end DL
namespace DL
open PySem L2 PyProof.Rows
def cloF (cells:List (Str×Addr)):List (Str×NameKind)->List (Str×Addr)->List (Str×Addr)
 | [],cs=>cs
 | (n,k)::r,cs=>cloF cells r (if (k == NameKind.free)=true then (n,(cells.lookup n).getD 0)::cs else cs)
theorem ygr {scope:Scope} {env:Env} (h:∀ y∈scope.names,y.2=.free->∃ c,env.cells.lookup y.1=some c):closureFor scope env=pure (cloF env.cells scope.names []):=by
 have key:∀ (l:List (Str×NameKind)) (cs:List (Str×Addr)),(∀ y∈l,y.2=.free->∃ c,env.cells.lookup y.1=some c) ->
   (forIn l cs (fun x cs=>if (x.2 == NameKind.free)=true then do let a <- cellOf env x.1;pure (ForInStep.yield ((x.1,a)::cs)) else pure (ForInStep.yield cs)):Sem (List (Str×Addr)))=pure (cloF env.cells l cs):=by
  intro l;induction l with
  | nil=>intro cs _;rfl
  | cons y l ih=>
   intro cs h;rw [Vp];obtain⟨n,k⟩:=y
   have ih':=fun cs=>ih cs fun z hz=>h z (Yo _ hz)
   by_cases e:(k == NameKind.free)=true
   ·refine xb (h (n,k) Wf (by cases k <;> first | rfl | cases e)) fun c hc=>?_;have hcell:cellOf env n=pure c:=by unfold cellOf;rw [hc]
    simp only [e,if_true,hcell,pure_bind];rw [ih'];simp only [cloF,e,if_true,hc,G2]
   ·simp only [e,if_false,pure_bind,Z0];rw [ih'];simp only [cloF,e,if_false,Z0]
 unfold closureFor;have:=key scope.names [] h
 simp only [bind_pure];first | exact this | (refine Eq.trans ?_ this;rfl) | (simp at this |-;exact this)
theorem zhf {cells:List (Str×Addr)}:∀ (l:List (Str×NameKind)) (cs:List (Str×Addr)),(∀ y∈l,y.2=.free->∃ c,cells.lookup y.1=some c)->(∀ p∈cs,cells.lookup p.1=some p.2)->∀ p∈cloF cells l cs,cells.lookup p.1=some p.2
 | [],cs,_,h,p,hp=>h p hp
 | (n,k)::r,cs,hl,h,p,hp=>by
  unfold cloF at hp;refine zhf r _ (fun z hz=>hl z (Yo _ hz)) (fun q hq=>?_) p hp;by_cases e:(k == NameKind.free)=true
  ·rw [if_pos e] at hq;rcases Zf.mp hq with z | z
   ·subst z;refine xb (hl (n,k) Wf (by cases k <;> first | rfl | cases e)) fun c hc=>?_;simp only [hc,G2]
   ·exact h q z
  ·rw [if_neg e] at hq;exact h q hq
theorem zoh {cells:List (Str×Addr)}:∀ (l:List (Str×NameKind)) (cs:List (Str×Addr)) (p:Str×Addr),p∈cs->p∈cloF cells l cs
 | [],_,_,h=>h
 | (n,k)::r,cs,p,h=>by
  unfold cloF;refine zoh r _ p ?_;by_cases e:(k == NameKind.free)=true
  ·rw [if_pos e];exact Yo _ h
  ·rw [if_neg e];exact h
theorem zlz {cells:List (Str×Addr)}:∀ (l:List (Str×NameKind)) (cs:List (Str×Addr)) (x:Str),(x,NameKind.free)∈l->∃ c,(x,c)∈cloF cells l cs
 | (n,k)::r,cs,x,h=>by
  unfold cloF;rcases Zf.mp h with z | z
  ·cases z;have ef:(NameKind.free == NameKind.free)=true:=rfl;simp only [ef,if_true];exact⟨_,zoh r _ _ Wf⟩
  ·exact zlz r _ x z
theorem zbo {α:Type}:∀ {l:List (Str×α)} {x:Str} {c:α},l.lookup x=some c->(x,c)∈l
 | [],_,_,h=>by cases h
 | (n,a)::r,x,c,h=>by
  rw [W8] at h;cases q:(x == n) with
  | true=>rw [q] at h;cases h;rw [eq_of_beq q];exact Wf
  | false=>rw [q] at h;exact Yo _ (zbo h)
theorem zfy {α:Type}:∀ {l:List (Str×α)} {x:Str} {c:α},(x,c)∈l->∃ c',l.lookup x=some c'
 | (n,a)::r,x,c,h=>by
  rw [W8];cases q:(x == n) with
  | true=>exact⟨_,rfl⟩
  | false=>
   rcases Zf.mp h with z | z
   ·cases z;rw [beq_self_eq_true] at q;cases q
   ·exact zfy z
end DL
namespace DL
open PySem L2 PyProof.Rows
theorem zej {scope:Scope} {env:Env} {x:Str}:(relabel scope env).names.lookup x=(scope.names.lookup x).map fun k=>if (k == NameKind.free && env.scope.kind == .function && env.kindOf x == some .cell)=true then NameKind.cell else k:=by
 unfold relabel;simp only
 generalize scope.names=l;induction l with
 | nil=>rfl
 | cons y l ih=>
  obtain⟨n,k⟩:=y
  rw [Zz];by_cases hc:(k == NameKind.free && env.scope.kind == .function && env.kindOf n == some .cell)=true
  ·simp only [hc,if_true];rw [W8,W8];cases q:(x == n) with
   | true=>have:=eq_of_beq q;subst this;simp only [Y5];rw [if_pos hc]
   | false=>simpa using ih
  ·simp only [hc];rw [if_neg (by simp),W8,W8];cases q:(x == n) with
   | true=>have:=eq_of_beq q;subst this;simp only [Y5];rw [if_neg hc]
   | false=>simpa using ih
def blk (X:Cx) (scope:Scope) (cl:List (Str×Addr)) (C:Addr) (N':List Str) (s₀:Shared) (H₀:Hp) (ex:List Addr):Cx:=
 {X with N:=N',s₀:=s₀,H₀:=H₀,env:=compEnvC scope cl C X.env,outer:=X.stack,stack:=X.stack,ex:=ex,fn:=fun _=>false,pn:=[],xe:=fun _ _=>False}
section
variable {X:Cx} {pins:List (Addr×Obj)} {σ:L2.St} {H:Hp} {s:Shared} {scope:Scope} {C:Addr} {N':List Str} {fp:List Addr}
theorem blk_ok (I:Inv X pins σ H s) (hk:scope.kind=.function) (hcell:∀ y∈scope.names,y.2 ≠ .cell) (hfree:∀ y∈scope.names,y.2=.free->∃ c,X.env.cells.lookup y.1=some c)
  (hC:s.heap.objs.size<=C) (hfp:∀ b∈fp,FpOk X pins H b) (hfo:∀ b∈fp,∃ o,s.heap.get? b=some o):(blk X scope (cloF X.env.cells scope.names []) C N' s H fp).Ok:=by
 have hcl:∀ {x c},(cloF X.env.cells scope.names []).lookup x=some c->X.env.cells.lookup x=some c:=fun h=>zhf scope.names [] hfree (fun p hp=>nomatch hp) _ (zbo h)
 refine⟨I.ok.mod,hk,I.ok.glob,I.ok.blt,hC,fun x y c h1 h2=>I.ok.inj x y c (hcl h1) (hcl h2),fun x h=>?_,fun x c h=>absurd h (by simp [blk]),I.ok.hd,I.ok.frames,.inl rfl,fun b hb=>?_,I.bs,Yn I.ok.bsz I.sz,fun b o e hb=>?_,fun b hb z=>?_,I.stack,I.stkFree⟩
 ·have hx:(relabel scope X.env).names.lookup x=some .cell\/(relabel scope X.env).names.lookup x=some .free:=h;rw [zej] at hx;have:scope.names.lookup x=some .free:=by
   cases q:scope.names.lookup x with
   | none=>rw [q] at hx;rcases hx with z | z <;> cases z
   | some k=>
    rw [q] at hx;have hm:=zbo q;cases k with
    | free=>rfl
    | cell=>exact absurd rfl (hcell _ hm)
    | _=>rcases hx with z | z <;> simp at z
  obtain⟨c,hc⟩:=zlz scope.names [] x (zbo this)
  exact zfy hc
 ·refine xb (hfo b hb) fun o e=>?_;refine⟨?_,fun x c h=>(hfp b hb).2.2.2.2.1 x c (hcl h)⟩
  exact Z3 (Zl (Zp e) hC)
 ·rcases (hfp b hb).2.2.2.1 with z | z
  ·exact I.ok.noex b o e z
  ·exact absurd (Zl (Zp e) (Yn I.ok.bsz z)) (Nat.lt_irrefl _)
 ·rcases Zf.mp (I.stkSub b z) with e | e
  ·exact (hfp b hb).2.1 e
  ·exact (hfp b hb).2.2.1 e
theorem ylk {s':Shared} {h':Heap} {t':Nat} {σ':L2.St} (I:Inv X pins σ H s) (hk:scope.kind=.function) (hcell:∀ y∈scope.names,y.2 ≠ .cell) (hfree:∀ y∈scope.names,y.2=.free->∃ c,X.env.cells.lookup y.1=some c)
  (hC:C=s.heap.objs.size) (hfp:∀ b∈fp,FpOk X pins H b) (hfo:∀ b∈fp,∃ o,s.heap.get? b=some o) {m:Str->Option Value} (hns:h'.Ns C m) (hkp:∀ b o,s.heap.get? b=some o->h'.get? b=some o)
  (hl:σ'.length=N'.length)
  (hv:∀ (i:Nat) (x:Str) (v:V),N'[i]? = some x->σ'[i]? = some (some v)->scope.names.lookup x=some .free/\X.env.kindOf x=some .cell/\∃ j:Nat,X.N[j]? = some x/\σ[j]? = some (some v)) :
  Inv (blk X scope (cloF X.env.cells scope.names []) C N' s H fp) [] σ' H {s with heap:=h',toks:=t'}:=by
 have hcl:∀ {x c},(cloF X.env.cells scope.names []).lookup x=some c->X.env.cells.lookup x=some c:=fun h=>zhf scope.names [] hfree (fun p hp=>nomatch hp) _ (zbo h)
 refine⟨blk_ok I hk hcell hfree (Nat.le_of_eq hC.symm) hfp hfo,rfl,I.bare,Un.kept hkp,⟨m,hns,fun i x v e1 e2 e3=>?_⟩,fun x c e=>?_,?_,fun x c e=>I.freeC x c (hcl e),fun p hp=>?_,I.hok.kept hkp,hl⟩
 ·refine vd (hv i x v e1 e2) fun f1 f2 j g1 g2=>?_;refine xa I.loc fun m0 hn0 hl0=>?_;refine xa (hl0 j x v g1 g2 (.inr (.inl f2))) fun u r lk=>?_;refine⟨u,r,.inr ⟨.inl ?_,?_⟩⟩
  ·show (relabel scope X.env).names.lookup x=some .cell;rw [zej,f1];have:(X.env.scope.kind == ScopeKind.function)=true:=by rw [I.ok.kind];rfl
   simp [this,f2]
  ·rcases lk with⟨z,_⟩ | ⟨_,c,hc,hcell'⟩
   ·rw [f2] at z;cases z
   ·obtain⟨c',hc'⟩:=zlz scope.names [] x (zbo f1)
    refine xb (zfy hc') fun c2 hc2=>?_;have:=hcl hc2
    rw [hc] at this;cases this;refine xa hcell' fun o ho hd=>?_;clear hcell'
    exact⟨c,hc2,o,hkp _ _ ho,hd⟩
 ·refine xj (I.cell x c (hcl e)) fun v o ho hd=>?_;exact⟨v,o,hkp _ _ ho,hd⟩
 ·show H C=none;rw [hC];exact I.hok.fresh (Zg _)
 ·exact nomatch hp
theorem yll {cl:List (Str×Addr)} {σ':L2.St} {H':Hp} {s':Shared} {pl:List (Addr×Obj)} (I:Inv X pins σ H s) (hfp:∀ b∈fp,FpOk X pins H b) (J:Inv (blk X scope cl C N' s H fp) pl σ' H' s'):Inv X pins σ H' s':=
 I.call' (ch:=fp) J.os J.base J.hok J.bare fun b hb=>⟨(hfp b hb).2.2.2.1,(hfp b hb).2.1,(hfp b hb).2.2.2.2.1,(hfp b hb).2.2.2.2.2⟩
end
end DL
namespace DL
open PySem L2 PyProof.Rows
section
variable {K:PySem.W.Frag} {H0 Fc F H:Hp} {σ:L2.St} {ρ:Rho}
theorem ER.mutF (R:ER K H0 Fc F H σ ρ) {a:Addr} {o:HO} (hF:F a=none) (h0:H0 a=none):ER K H0 Fc F (upd H a o) σ ρ:=
 ⟨fun b u e=>by rw [zaa (fun z=>by subst z;rw [hF] at e;cases e)];exact R.sub b u e,fun b u e=>by rw [zaa (fun z=>by subst z;rw [h0] at e;cases e)];exact R.same b u e,R.base,R.new,R.env⟩
theorem ER.here (R:ER K H0 Fc F H σ ρ):ER K H F F H σ ρ:=⟨R.sub,Same.refl _,Same.refl _,fun a o e=>.inl e,R.env⟩
theorem ER.there {F' H':Hp} {σ':L2.St} {ρ':Rho} (R:ER K H0 Fc F H σ ρ) (R':ER K H F F' H' σ' ρ'):ER K H0 Fc F' H' σ' ρ':=
 ⟨R'.sub,R.same.trans R'.same,R.base.trans R'.base,fun a o e=>(R'.new a o e).elim (R.new a o) fun z=>.inr (R.same.free z),R'.env⟩
theorem ER.fewer {ρ':Rho} (R:ER K H0 Fc F H σ ρ) (h:∀ (i:Nat) d,ρ'[i]? = some (some d)->ρ[i]? = some (some d)):ER K H0 Fc F H σ ρ':=⟨R.sub,R.same,R.base,R.new,fun i d e=>R.env i d (h i d e)⟩
end
def DIe (X:Cx) (tg iter:Expr) (ρ:Rho) (items:List D):Prop:=∀ H0 Fc,PI X tg iter (fun σ H R=>∃ F,ER X.K H0 Fc F H σ ρ/\∀ J H' F',Same F F'->ER X.K H0 Fc F' H' σ ρ->Walks X.K F' J items->R J H')
def DGe (X:Cx) (tg:Expr) (d:D) (ρ ρ':Rho):Prop:=∀ H0 Fc,PG X tg (fun v σ H Q=>σ.length=X.N.length/\∃ F,ER X.K H0 Fc F H σ ρ/\Den X.K F d v/\∀ σ',σ'.length=X.N.length->ER X.K H0 Fc F H σ' ρ'->Q σ' H)
def zdk (f:D->Option (Option D)):List D->Option (List D)
 | []=>some []
 | d::l=>match f d with
  | none=>none
  | some none=>zdk f l
  | some (some e)=>(zdk f l).map fun r=>e::r
def DTs (X:Cx) (ifs:List Expr) (ρ:Rho) (k:Bool):Prop:=(ifs=[]/\k=true)\/∃ c,ifs=[c]/\DT X c ρ k
section
variable {X:Cx} {pins:List (Addr×Obj)} {σ:L2.St} {H1:Hp} {s2:Shared} {tg elt iter:Expr} {ifs:List Expr} {scope:Scope} {pos:Pos} {fp:List Addr} {it:Addr} {tn:Nat->Heap->Prop} {J:It} {N':List Str} {items res:List D} {f:D->Option (Option D)} {ρ0:Rho}
def CInv (X:Cx) (scope:Scope) (C:Addr) (N':List Str) (s3:Shared) (H1:Hp) (D:Addr) (fp:List Addr) (tn:Nat->Heap->Prop) (items:List DL.D) (H0 Fc F1:Hp) (ρ0:Rho) (f:DL.D->Option (Option DL.D)) (res:List DL.D) (n:Nat) (s':Shared):Prop:=
 ∃ i σ1 Ha Fa ys done rest,Inv (blk X scope (cloF X.env.cells scope.names []) C N' s3 (upd H1 D (.lst [])) fp) [] σ1 Ha s'/\tn i s'.heap/\(∀ b∈fp,Ha b=none)/\n=items.length+1-i/\i<=items.length /\
   ER X.K H0 Fc Fa Ha σ1 ρ0/\Same F1 Fa/\Fa D=none/\Ha D=some (.lst ys)/\DenL X.K Fa done ys/\zdk f (items.drop i)=some rest/\done++rest=res/\done.length<=i
theorem zyv {H0 Fc F1:Hp} {ρ:Rho} {σ':L2.St} {RR:Value->Addr->Result->Shared->Prop} {E:Value->Shared->Prop} (I:Inv X pins σ H1 s2) (hcalm:X.calm=true) (T:Turn X.prog X.w X.K tg J fp it tn) (h0:tn 0 s2.heap) (hfp:∀ b∈fp,FpOk X pins H1 b)
  (hk:scope.kind=.function) (hcell:∀ y∈scope.names,y.2 ≠ .cell) (hfree:∀ y∈scope.names,y.2=.free->∃ c,X.env.cells.lookup y.1=some c)
  (R1:ER X.K H0 Fc F1 H1 σ ρ) (hl:σ'.length=N'.length) (hρ:∀ (i:Nat) d,ρ0[i]? = some (some d)->∃ v,σ'[i]? = some (some v)/\Den X.K F1 d v)
  (hv:∀ (i:Nat) (x:Str) (v:V),N'[i]? = some x->σ'[i]? = some (some v)->scope.names.lookup x=some .free/\X.env.kindOf x=some .cell/\∃ j:Nat,X.N[j]? = some x/\σ[j]? = some (some v))
  (wk:Walks X.K F1 J items) (hsz:items.length<=sizeLine) (hres:zdk f items=some res)
  (hblk:∀ (C:Addr) (s₀:Shared) (H₀:Hp) (d:D) (o:Option D),d∈items->f d=some o->∃ ρd,DGe (blk X scope (cloF X.env.cells scope.names []) C N' s₀ H₀ fp) tg d ρ0 ρd/\(∀ (i:Nat) d,ρ0[i]? = some (some d)->ρd[i]? = some (some d)) /\
   (match o with | none=>DTs (blk X scope (cloF X.env.cells scope.names []) C N' s₀ H₀ fp) ifs ρd false | some e=>DTs (blk X scope (cloF X.env.cells scope.names []) C N' s₀ H₀ fp) ifs ρd true/\DF (blk X scope (cloF X.env.cells scope.names []) C N' s₀ H₀ fp) elt ρd e))
  (kend:∀ (D C:Addr) (s5:Shared) (H' F':Hp) (ys:List V) (m:Str->Option Value),Inv X pins σ H' s5->s5.heap.Ns C m->H' C=none->C≠X.env.locals->X.s₀.heap.objs.size<=C->(∀ x c,X.env.cells.lookup x=some c->c≠C)->(∀ p∈X.pn++pins,p.1≠C) ->
   Same F1 F'->ER X.K H0 Fc F' H' σ ρ->F' D=none->H0 D=none->H' D=some (.lst ys)->DenL X.K F' res ys->RR (.ref D) C (.ok .next) s5)
  {D C:Addr} {s3:Shared} {h4:Heap} {tk:Nat} (I3:Inv X pins σ (upd H1 D (.lst [])) s3) (fo3:∀ b∈fp,∃ o,s3.heap.get? b=some o) (hfp3:∀ b∈fp,FpOk X pins (upd H1 D (.lst [])) b) (hC:s3.heap.objs.size=C) (J4:Inv (blk X scope (cloF X.env.cells scope.names []) C N' s3 (upd H1 D (.lst [])) fp) [] σ' (upd H1 D (.lst [])) {s3 with heap:=h4,toks:=tk}) (tn4:tn 0 h4)
  (CX:C≠X.env.locals/\X.s₀.heap.objs.size<=C/\(∀ x c,X.env.cells.lookup x=some c->c≠C)/\(∀ p∈X.pn++pins,p.1≠C)) (R4:ER X.K H0 Fc F1 (upd H1 D (.lst [])) σ' ρ0) (hFD:F1 D=none) (h0D:H0 D=none) :
  codeAny (model X.prog X.w) X.A (.compLoop (.ListComp elt [⟨tg,iter,ifs,0⟩] scope pos) 0 (.ref it) (.ref D) (compEnvC scope (cloF X.env.cells scope.names []) C X.env)) (RR (.ref D) C) {s3 with heap:=h4,toks:=tk}:=by
 refine codeAny_loop rfl (CInv X scope C N' s3 H1 D fp tn items H0 Fc F1 ρ0 f res) ?_ (items.length+1)
  ⟨0,σ',_,F1,[],[],res,J4,tn4,fun b hb=>(hfp3 b hb).1,rfl,Yc _,R4,Same.refl _,hFD,B5,DenL.nil,hres,rfl,Yc _⟩
 rintro n s5 ⟨i,σ1,Ha,Fa,ys,done,rest,J5,tn5,fr5,rfl,hi,R5,sF5,hFD5,hD5,dn5,cl5,rs5,dl5⟩
 show wpAny _ X.A ((compTurn (.ListComp elt [⟨tg,iter,ifs,0⟩] scope pos) 0 (.ref it) (.ref D) (compEnvC scope (cloF X.env.cells scope.names []) C X.env)).onRaise (fun x=>do noteFrame x (compEnvC scope (cloF X.env.cells scope.names []) C X.env);theTreesLotGoes x)) _ _ s5;refine wpAny_noted ?_;rw [compTurn_list];have fx:∀ {Hx:Hp},(∀ b∈fp,Hx b=none)->∀ b∈fp,FpOk (blk X scope (cloF X.env.cells scope.names []) C N' s3 (upd H1 D (.lst [])) fp) [] Hx b:=fun hn b hb=>by
  refine⟨hn b hb,?_,?_,.inl hb,?_,fun p hp=>nomatch hp⟩
  ·refine xb (fo3 b hb) fun o e=>?_;show b≠C;rw [<- hC];exact Z3 (Zp e)
  ·intro z;rcases Zf.mp (I.stkSub b z) with e | e
   ·exact (hfp b hb).2.1 e
   ·exact (hfp b hb).2.2.1 e
  ·intro x c h;exact (hfp b hb).2.2.2.2.1 x c (zhf scope.names [] hfree (fun p hp=>nomatch hp) _ (zbo h))
 have ff:∀ {α:Type} {t:Sem α} {Q:α->Shared->Prop} {E':Value->Shared->Prop} {s:Shared},wpAny (model X.prog X.w) X.A t Q (fun _ _=>False) s->wpAny (model X.prog X.w) X.A t Q E' s:=fun h=>K7 h (fun _ _ q=>q) fun _ _ z=>z.elim
 have wk5:=wk i Ha (sF5.trans R5.sub);refine Zc (J1 (Zc ?_));by_cases hlt:i<items.length
 ·have hd:items[i]? = some items[i]:=Ze hlt;rw [Yd hlt] at cl5;refine xg (wk5.1 _ hd) fun go yl=>?_;refine ff (thn (T.item (blk X scope (cloF X.env.cells scope.names []) C N' s3 (upd H1 D (.lst [])) fp) rfl rfl rfl hcalm i [] s5 σ1 Ha (fun _ _=>False) J5 (fx fr5) tn5 go) fun r s6 hz=>xa hz fun u hr h6=>?_);subst hr;refine Zc (ff (thn h6 fun _ s7 hz=>xm hz fun x H7 J7 r7 y7 tn7 fr7=>?_));obtain⟨F7,sF7,R7,q7,hD7,hFD7⟩:∃ F7,Same Fa F7/\ER X.K H0 Fc F7 H7 σ1 ρ0/\Den X.K F7 items[i] x/\H7 D=some (.lst ys)/\F7 D=none:=by
   rcases yl x H7 y7 with⟨e,q⟩ | ⟨p,xs,ds,hp,e,ex,ed,q⟩
   ·subst e;exact⟨Fa,Same.refl _,R5,q.mono sF5,hD5,hFD5⟩
   ·subst e ex;refine xg (R5.lay (.tup xs) hp) fun R8 s8=>?_;have npD:D≠p:=fun z=>by subst z;rw [hD5] at hp;cases hp
    refine⟨_,s8,R8,?_,by rw [zaa npD];exact hD5,by rw [zaa npD];exact hFD5⟩
    rw [ed];exact Den.tup_mk (SqT.of B5) ((q.mono sF5).mono s8)
  have J8:=J7.pinned (fx fr7) (T.obj _ _ tn7);have fin:∀ {s9:Shared} {σ9:L2.St} {H9 F9:Hp} {zs:List V} {more left:List DL.D},Inv (blk X scope (cloF X.env.cells scope.names []) C N' s3 (upd H1 D (.lst [])) fp) ([]++zka fp s7.heap) σ9 H9 s9->ER X.K H0 Fc F9 H9 σ9 ρ0->Same F1 F9->F9 D=none->H9 D=some (.lst zs)->DenL X.K F9 more zs ->
    zdk f (items.drop (i+1))=some left->more++left=res->more.length<=i+1 ->
    ∃ m,m<items.length+1-i/\CInv X scope C N' s3 H1 D fp tn items H0 Fc F1 ρ0 f res m s9:=by
   intro s9 σ9 H9 F9 zs more left J9 R9 sF9 hF9 hD9 dn9 cl9 rs9 dl9;refine⟨items.length+1-(i+1),by omega,i+1,σ9,H9,F9,zs,more,left,J9.unpinned,?_,fun b hb=>?_,rfl,hlt,R9,sF9,hF9,hD9,dn9,cl9,rs9,dl9⟩
   ·exact T.keep _ _ _ tn7 fun b hb o e=>(J9.pin (b,o) (Yj _ (Yj _ (zec hb e)))).1
   ·refine xa (T.obj _ _ tn7 b hb) fun o e _=>?_;exact (J9.pin (b,o) (Yj _ (Yj _ (zec hb e)))).2.1
  unfold zdk at cl5;cases hf:f items[i] with
  | none=>rw [hf] at cl5;cases cl5
  | some o=>
   rw [hf] at cl5;refine xh (hblk C s3 (upd H1 D (.lst [])) items[i] o (Js hlt) hf) fun ρd hG hsub hO=>?_;refine Zc (ff (thn (hG H0 Fc _ s7 σ1 H7 x u (fun σ9 H9=>H9=H7/\ER X.K H0 Fc F7 H7 σ9 ρd) J8 r7 ⟨J7.len,F7,R7,q7,fun σ9 hl9 R9=>⟨rfl,R9⟩⟩) fun _ s8 hz=>xc hz fun σ9 H9 J9 e9 R9=>?_));subst e9;have tests:∀ k,DTs (blk X scope (cloF X.env.cells scope.names []) C N' s3 (upd H1 D (.lst [])) fp) ifs ρd k ->
     wpAny (model X.prog X.w) X.A (forIn ifs true fun c r=>if r=true then do let ok <- isTrue c (compEnvC scope (cloF X.env.cells scope.names []) C X.env) (eval c (compEnvC scope (cloF X.env.cells scope.names []) C X.env));pure (ForInStep.yield ok) else pure (ForInStep.yield r))
      (fun ok s'=>ok=k/\∃ H10 F10,Inv (blk X scope (cloF X.env.cells scope.names []) C N' s3 (upd H1 D (.lst [])) fp) ([]++zka fp s7.heap) σ9 H10 s'/\Same F7 F10/\ER X.K H9 F7 F10 H10 σ9 ρd) (fun _ _=>False) s8:=by
    intro k hk;rcases hk with⟨e1,e2⟩ | ⟨c,e1,hT⟩
    ·subst e1 e2;exact wpAny_tests_nil ⟨rfl,H9,F7,J9,Same.refl _,R9.here⟩
    ·subst e1;refine wpAny_tests_one (thn (hT H9 F7 _ s8 σ9 H9 (fun b H10=>b=k/\∃ F10,Same F7 F10/\ER X.K H9 F7 F10 H10 σ9 ρd) J9 ⟨F7,R9.here,fun H10 F10 s10 R10=>⟨rfl,F10,s10,R10⟩⟩) fun b s' hz=>vq hz fun H10 J10 e10 F10 s10 R10=>⟨e10,H10,F10,J10,s10,R10⟩)
   have dfree:∀ {F10 H10:Hp} {σ':L2.St} {ρ':Rho},ER X.K H9 F7 F10 H10 σ' ρ'->H10 D=some (.lst ys)/\F10 D=none:=fun {F10 H10 σ' ρ'} R10=>by
    refine⟨R10.same D _ hD7,?_⟩
    cases z:F10 D with
    | none=>rfl
    | some o=>
     rcases R10.new D o z with w | w
     ·rw [hFD7] at w;cases w
     ·rw [hD7] at w;cases w
   cases o with
   | none=>
    refine Zc (ff (thn (tests false hO) fun ok s9 hz=>xy hz fun eok H10 F10 J10 s10 R10=>?_));subst eok;refine xg (dfree R10) fun hD10 hF10=>?_;refine Zi ⟨rfl,fin J10 ((R9.there R10).fewer hsub) ((sF5.trans sF7).trans s10) hF10 hD10 ((dn5.mono sF7).mono s10) cl5 rs5 (by omega)⟩
   | some e=>
    refine xg hO fun hT hE=>?_;clear hO
    refine xa (Zb.mp cl5) fun left hleft eleft=>?_;subst eleft;refine Zc (ff (thn (tests true hT) fun ok s9 hz=>xy hz fun eok H10 F10 J10 s10 R10=>?_));subst eok;refine xg (dfree R10) fun hD10 hF10=>?_;have R10':=R9.there R10;rw [if_pos rfl];refine Zc (Zc (ff (thn (hE H10 F10 _ s9 σ9 H10 (fun v H11=>∃ F11,Same F10 F11/\ER X.K H10 F10 F11 H11 σ9 ρd/\Den X.K F11 e v) J10 ⟨F10,R10'.here,fun v H11 F11 s11 R11 q11=>⟨F11,s11,R11,q11⟩⟩) fun uv s11 hz=>vm hz fun v H11 J11 r11 F11 sF11 R11 q11=>?_)));have hD11:H11 D=some (.lst ys):=R11.same D _ hD10;have hF11:F11 D=none:=by
     cases z:F11 D with
     | none=>rfl
     | some o=>
      rcases R11.new D o z with w | w
      ·rw [hF10] at w;cases w
      ·rw [hD10] at w;cases w
    have hyl:ys.length=done.length:=dn5.length;have R11':=R10'.there R11;refine Zc (ff (thn (znt _ s11 σ9 H11 (.ref D) [v] (.ref D) [uv] (fun _ H12=>H12=upd H11 D (.lst (ys++[v]))) J11 rfl (.cons r11 .nil) ⟨D,ys,v,rfl,rfl,hD11,by omega,rfl⟩) fun _ s12 hz=>xc hz fun _ H12 J12 _ e12=>?_));subst e12;refine Zi (Zi ⟨rfl,fin (zs:=ys++[v]) (more:=done++[e]) J12 ((R11'.mutF hF11 h0D).fewer hsub) (((sF5.trans sF7).trans s10).trans sF11) hF11 B5 ((((dn5.mono sF7).mono s10).mono sF11).append (DenL.cons q11 DenL.nil)) hleft (by rw [Wm];exact rs5) (by rw [Zs,Gi];omega)⟩)
 ·have e:i=items.length:=by omega
  subst e;rw [Bu] at cl5;cases cl5;rw [W5] at rs5;subst rs5;refine ff (thn (T.done (blk X scope (cloF X.env.cells scope.names []) C N' s3 (upd H1 D (.lst [])) fp) rfl rfl rfl hcalm _ [] s5 σ1 Ha (fun _ _=>False) J5 (fx fr5) tn5 (wk5.2 (Zg _))) fun r s6 hz=>xg hz fun hr J6=>?_);subst hr;refine xa J6.loc fun m hnm _=>?_;refine Zi (kend D C s6 Ha Fa ys m (yll I3 hfp3 J6) hnm J6.free CX.1 CX.2.1 CX.2.2.1 CX.2.2.2 sF5 ⟨R5.sub,R5.same,R5.base,R5.new,fun j d e=>?_⟩ hFD5 h0D hD5 dn5);refine xa (R1.env j d e) fun v g1 g2=>?_;exact⟨v,g1,g2.mono sF5⟩
theorem ydv {H0 Fc F1:Hp} {ρ:Rho} {σ':L2.St} {RR:Value->Addr->Result->Shared->Prop} {E:Value->Shared->Prop} (I:Inv X pins σ H1 s2) (hcalm:X.calm=true) (T:Turn X.prog X.w X.K tg J fp it tn) (h0:tn 0 s2.heap) (hfp:∀ b∈fp,FpOk X pins H1 b)
  (hk:scope.kind=.function) (hcell:∀ y∈scope.names,y.2 ≠ .cell) (hfree:∀ y∈scope.names,y.2=.free->∃ c,X.env.cells.lookup y.1=some c)
  (R1:ER X.K H0 Fc F1 H1 σ ρ) (hl:σ'.length=N'.length) (hρ:∀ (i:Nat) d,ρ0[i]? = some (some d)->∃ v,σ'[i]? = some (some v)/\Den X.K F1 d v)
  (hv:∀ (i:Nat) (x:Str) (v:V),N'[i]? = some x->σ'[i]? = some (some v)->scope.names.lookup x=some .free/\X.env.kindOf x=some .cell/\∃ j:Nat,X.N[j]? = some x/\σ[j]? = some (some v))
  (wk:Walks X.K F1 J items) (hsz:items.length<=sizeLine) (hres:zdk f items=some res)
  (hblk:∀ (C:Addr) (s₀:Shared) (H₀:Hp) (d:D) (o:Option D),d∈items->f d=some o->∃ ρd,DGe (blk X scope (cloF X.env.cells scope.names []) C N' s₀ H₀ fp) tg d ρ0 ρd/\(∀ (i:Nat) d,ρ0[i]? = some (some d)->ρd[i]? = some (some d)) /\
   (match o with | none=>DTs (blk X scope (cloF X.env.cells scope.names []) C N' s₀ H₀ fp) ifs ρd false | some e=>DTs (blk X scope (cloF X.env.cells scope.names []) C N' s₀ H₀ fp) ifs ρd true/\DF (blk X scope (cloF X.env.cells scope.names []) C N' s₀ H₀ fp) elt ρd e))
  (kend:∀ (D C:Addr) (s5:Shared) (H' F':Hp) (ys:List V) (m:Str->Option Value),Inv X pins σ H' s5->s5.heap.Ns C m->H' C=none->C≠X.env.locals->X.s₀.heap.objs.size<=C->(∀ x c,X.env.cells.lookup x=some c->c≠C)->(∀ p∈X.pn++pins,p.1≠C) ->
   Same F1 F'->ER X.K H0 Fc F' H' σ ρ->F' D=none->H0 D=none->H' D=some (.lst ys)->DenL X.K F' res ys->RR (.ref D) C (.ok .next) s5)
  {D:Addr} {s3:Shared} (I3:Inv X pins σ (upd H1 D (.lst [])) s3) (fo3:∀ b∈fp,∃ o,s3.heap.get? b=some o) (hfp3:∀ b∈fp,FpOk X pins (upd H1 D (.lst [])) b) (tn3:tn 0 s3.heap) (R3:ER X.K H0 Fc F1 (upd H1 D (.lst [])) σ ρ) (hFD:F1 D=none) (h0D:H0 D=none) :
  wpAny (model X.prog X.w) X.A (newFunctionEnv scope X.env.globals (cloF X.env.cells scope.names []) [] X.env.qual none .none (some X.env)) (fun cenv s₄=>
   codeAny (model X.prog X.w) X.A (.compStart (.ListComp elt [⟨tg,iter,ifs,0⟩] scope pos) 0 (.ref it) (.ref D) {cenv with scope:=relabel scope X.env}) (RR (.ref D) cenv.locals) s₄) E s3:=by
 refine wpAny_newFunctionEnv hcell (by intro y hy;simp at hy) (fun h4 hns4 hsb4=>?_) hk;have k4:∀ b o,s3.heap.get? b=some o->h4.get? b=some o:=fun b o e=>hsb4.extBut b o (Z3 (Zp e)) (Zh _ e)
 have J4:=ylk (t':=s3.toks+([]:List (Str×Value)).length) (s':=s3) (N':=N') I3 hk hcell hfree rfl hfp3 fo3 hns4 k4 hl hv;have tn4:tn 0 h4:=T.keep 0 _ _ tn3 fun b hb o e=>k4 b o e
 have CX:s3.heap.objs.size≠X.env.locals/\X.s₀.heap.objs.size<=s3.heap.objs.size/\(∀ x c,X.env.cells.lookup x=some c->c≠s3.heap.objs.size)/\(∀ p∈X.pn++pins,p.1≠s3.heap.objs.size):=by
  refine xu (I3.fpOk (H':=upd H1 D (.lst [])) (b:=s3.heap.objs.size) (Zg _) (I3.hok.fresh (Zg _))) fun _ b1 _ b3 b4 b5=>?_;exact⟨b1,I3.sz,b4,b5⟩
 have loop:=zyv (elt:=elt) (iter:=iter) (pos:=pos) (RR:=RR) (E:=E) I hcalm T h0 hfp hk hcell hfree R1 hl hρ hv wk hsz hres hblk kend I3 fo3 hfp3 rfl J4 tn4 CX ⟨R3.sub,R3.same,R3.base,R3.new,hρ⟩ hFD h0D;exact codeAny_compStart_list loop (T.self _ 0 _ _ _ tn4 loop)
theorem zki {K:PySem.W.Frag} (hK:K=X.K) {H0 Fc F1:Hp} {ρ:Rho} {σ':L2.St} {RR:Value->Addr->Result->Shared->Prop} {E:Value->Shared->Prop} (I:Inv X pins σ H1 s2) (hcalm:X.calm=true) (T:Turn X.prog X.w X.K tg J fp it tn) (h0:tn 0 s2.heap) (hfp:∀ b∈fp,FpOk X pins H1 b)
  (hk:scope.kind=.function) (hcell:∀ y∈scope.names,y.2 ≠ .cell) (hfree:∀ y∈scope.names,y.2=.free->∃ c,X.env.cells.lookup y.1=some c)
  (R1:ER X.K H0 Fc F1 H1 σ ρ) (hl:σ'.length=N'.length) (hρ:∀ (i:Nat) d,ρ0[i]? = some (some d)->∃ v,σ'[i]? = some (some v)/\Den X.K F1 d v)
  (hv:∀ (i:Nat) (x:Str) (v:V),N'[i]? = some x->σ'[i]? = some (some v)->scope.names.lookup x=some .free/\X.env.kindOf x=some .cell/\∃ j:Nat,X.N[j]? = some x/\σ[j]? = some (some v))
  (wk:Walks X.K F1 J items) (hsz:items.length<=sizeLine) (hres:zdk f items=some res)
  (hblk:∀ (C:Addr) (s₀:Shared) (H₀:Hp) (d:D) (o:Option D),d∈items->f d=some o->∃ ρd,DGe (blk X scope (cloF X.env.cells scope.names []) C N' s₀ H₀ fp) tg d ρ0 ρd/\(∀ (i:Nat) d,ρ0[i]? = some (some d)->ρd[i]? = some (some d)) /\
   (match o with | none=>DTs (blk X scope (cloF X.env.cells scope.names []) C N' s₀ H₀ fp) ifs ρd false | some e=>DTs (blk X scope (cloF X.env.cells scope.names []) C N' s₀ H₀ fp) ifs ρd true/\DF (blk X scope (cloF X.env.cells scope.names []) C N' s₀ H₀ fp) elt ρd e))
  (kend:∀ (D C:Addr) (s5:Shared) (H' F':Hp) (ys:List V) (m:Str->Option Value),Inv X pins σ H' s5->s5.heap.Ns C m->H' C=none->C≠X.env.locals->X.s₀.heap.objs.size<=C->(∀ x c,X.env.cells.lookup x=some c->c≠C)->(∀ p∈X.pn++pins,p.1≠C) ->
   Same F1 F'->ER X.K H0 Fc F' H' σ ρ->F' D=none->H0 D=none->H' D=some (.lst ys)->DenL X.K F' res ys->RR (.ref D) C (.ok .next) s5) :
  wpAny (model X.prog X.w) X.A (newList []) (fun acc s₃=>wpAny (model X.prog X.w) X.A (newFunctionEnv scope X.env.globals (cloF X.env.cells scope.names []) [] X.env.qual none .none (some X.env)) (fun cenv s₄=>
   codeAny (model X.prog X.w) X.A (.compStart (.ListComp elt [⟨tg,iter,ifs,0⟩] scope pos) 0 (.ref it) acc {cenv with scope:=relabel scope X.env}) (RR acc cenv.locals) s₄) E s₃) E s2:=by
 have fo2:∀ b∈fp,∃ o,s2.heap.get? b=some o:=fun b hb=>by
  refine xa (T.obj 0 _ h0 b hb) fun o e _=>?_;exact⟨o,e⟩
 have k3:∀ b o,s2.heap.get? b=some o->(s2.heap.push {cls:=.type "list", data:=.seq ([]:List Value).toArray}).get? b=some o:=fun b o e=>Zh _ e
 refine xi (R1.put (.lst []) (I.hok.fresh (Zg _))) fun R3 hFD h0D=>?_;refine Q3 ?_ (by show 0<=sizeLine;exact Yc _);exact ydv (elt:=elt) (iter:=iter) (pos:=pos) (RR:=RR) I hcalm T h0 hfp hk hcell hfree R1 hl hρ hv wk hsz hres hblk kend (L2.Inv.lnew (its:=[]) (t':=s2.toks) I .nil (Yc _)) (fun b hb=>let ⟨o,e⟩:=fo2 b hb;⟨o,k3 b o e⟩)
  (fun b hb=>⟨by rw [zaa (by refine xb (fo2 b hb) fun o e=>?_;exact Z3 (Zp e))];exact (hfp b hb).1,(hfp b hb).2⟩) (T.keep 0 _ _ h0 fun b hb o e=>k3 b o e) R3 hFD h0D
end
def blkR {α:Type} (k:Nat) (fr:List Nat) (ρ:List (Option α)):List (Option α):=List.replicate k none++fr.map fun i=>(ρ[i]?).bind id
theorem zef {α:Type} {k:Nat} {fr:List Nat} {ρ:List (Option α)} {i:Nat} {v:α} (h:(blkR k fr ρ)[i]? = some (some v)):∃ m j,i=k+m/\fr[m]? = some j/\ρ[j]? = some (some v):=by
 unfold blkR at h;by_cases hi:i<k
 ·rw [Z4 (by rw [Wc];exact hi),Qm] at h;split at h <;> cases h
 ·rw [Zx (by rw [Wc];omega),Wc,Zj] at h;cases q:fr[i-k]? with
  | none=>rw [q] at h;cases h
  | some j=>
   rw [q] at h;refine⟨i-k,j,by omega,q,?_⟩
   have h2:(ρ[j]?).bind id=some v:=Ye h;cases z:ρ[j]? with
   | none=>rw [z] at h2;cases h2
   | some o=>rw [z] at h2;cases o with
    | none=>cases h2
    | some v'=>exact congrArg some h2
theorem zzf {α:Type} {k:Nat} {fr:List Nat} {ρ:List (Option α)} {m j:Nat} {v:α} (h1:fr[m]? = some j) (h2:ρ[j]? = some (some v)):(blkR k fr ρ)[k+m]? = some (some v):=by
 unfold blkR;rw [Zx (by rw [Wc];omega),Wc,Zj,show k+m-k=m by omega,h1];simp [h2]
theorem zsq {α:Type} {k:Nat} {fr:List Nat} {ρ:List (Option α)}:(blkR k fr ρ).length=k+fr.length:=by
 unfold blkR;rw [Zs,Wc,Zd]
end DL
namespace DL
open PySem L2 PyProof.Rows
section
variable {X:Cx} {e a b:Expr} {es:List Expr} {ρ:Rho} {pos:Pos} {w:W}
theorem yja:OpR X (binaryOp .Add) (fun x y H Q=>∃ l b xs zs,x=.ref l/\y=.ref b/\SqL X.K H l xs/\SqL X.K H b zs/\xs.length+zs.length<=sizeLine/\∀ p,H p=none->Q (.ref p) (upd H p (.lst (xs++zs)))):=by
 intro pins s σ H x y v u Q I rx ry h;refine vk h fun l b xs zs qz4 qz5 hH hB hz q=>?_;clear h;subst qz4;subst qz5
 cases rx;cases ry;refine xh (I.list hH) fun its r pl z1=>?_;refine xh (I.list hB) fun its2 r2 pl2 z2=>?_;obtain⟨⟨cl1,dd1,dt1,sl1⟩,n,ho,hc,hd0,hd⟩:=pl
 obtain⟨⟨cl2,dd2,dt2,sl2⟩,n2,ho2,hc2,hd02,hd2⟩:=pl2
 cases hc;cases hd;cases hc2;cases hd2
 have l1:=r.length;have l2:=r2.length;have ea:its.toArray++its2.toArray=(its++its2).toArray:=by simp
 refine concat_meets ⟨_,ho,rfl⟩ ⟨_,ho2,rfl⟩ noFill_list_add seq_list_add PySem.F.slot_list_add PySem.F.entry_list_add (PySem.F.args_list_add_2 _ _) (list_addW l b its.toArray its2.toArray n n2 dd1 dd2 sl1 sl2 (by simp only [Zv];omega)) ⟨ho,ho2,?_⟩;rw [ea];exact⟨.ref _,_,I.lnew (t':=s.toks) (r.append r2) (by rw [Zs];omega),rfl,q _ I.fresh⟩
theorem DE.cat {l m:List D} (ha:DF X a ρ (.lst l)) (hb:DF X b ρ (.lst m)) (hl:l.length+m.length<=sizeLine):DE X (.BinOp a .Add b pos) ρ (.new (l++m)):=fun H0 Fc=>
 PE.mono (yiq yja (ha H0 Fc) (hb H0 Fc)) (zeg fun H F σ v u Q R qv qu k=>by
  refine xc qv.lst fun p xs e1 sq r=>?_;refine xc qu.lst fun p2 ys e2 sq2 r2=>?_;subst e1;subst e2;refine⟨p,p2,xs,ys,rfl,rfl,R.sub.seq sq,R.sub.seq sq2,by rw [r.length,r2.length];exact hl,fun q hq=>?_⟩
  refine xi (R.put (.lst (xs++ys)) hq) fun R4 hF h0=>?_;exact k _ _ _ (Same.refl _) R4 (RW.n hF h0 B5 (r.append r2)))
theorem yec {l:List D}:zjh X (.type "list") [.lst l] (.new l):=⟨_,zgp,fun H0 Fc H F σ ρ vs Q R q k=>by
 refine xa q.one fun v e q=>?_;refine xc q.lst fun p xs e1 sq r=>?_;rw [e1] at e;refine⟨p,xs,e,.inl (R.sub.seq sq),fun p2 hp=>?_⟩
 refine xi (R.put (.lst xs) hp) fun R4 hF h0=>?_;exact k _ _ _ (Same.refl _) R4 (RW.n hF h0 B5 r)⟩
theorem zzd {l:List D}:zjh X (.type "list") [.tup l] (.new l):=⟨_,zgp,fun H0 Fc H F σ ρ vs Q R q k=>by
 refine xa q.one fun v e q=>?_;refine xc q.tup fun p xs e1 sq r=>?_;rw [e1] at e;refine⟨p,xs,e,.inr (Same.tup R.sub sq),fun p2 hp=>?_⟩
 refine xi (R.put (.lst xs) hp) fun R4 hF h0=>?_;exact k _ _ _ (Same.refl _) R4 (RW.n hF h0 B5 r)⟩
theorem ylh {i j:Int} (hc:X.calm=true):zjh X (.builtin "min") [.int i,.int j] (.val (.int (if j<i then j else i))):=⟨_,zyz hc,fun H0 Fc H F σ ρ vs Q R q k=>by
 refine xc q.two fun v u e q1 q2=>?_;rw [q1.int,q2.int] at e;exact⟨i,j,e,k _ H F (Same.refl _) R RW.int⟩⟩
theorem yli {i j:Int} (hc:X.calm=true):zjh X (.builtin "max") [.int i,.int j] (.val (.int (if i<j then j else i))):=⟨_,zza hc,fun H0 Fc H F σ ρ vs Q R q k=>by
 refine xc q.two fun v u e q1 q2=>?_;rw [q1.int,q2.int] at e;exact⟨i,j,e,k _ H F (Same.refl _) R RW.int⟩⟩
end
section
variable {X:Cx} {e:Expr} {ρ:RhoS} {pos:Pos}
theorem zfq {K:PySem.W.Frag} {H0 Fc F H:Hp} {σ:L2.St} (S:SR K H0 Fc F H σ ρ) {i:Nat} {l:List D} (h:ρ[i]? = some (some (.ow l))):∃ a xs,σ[i]? = some (some (.ref a))/\H a=some (.lst xs)/\DenL K F l xs:=by
 refine xm (S.own i l h) fun a xs p _ _ p3 p4=>?_;exact⟨a,xs,p,p3,p4⟩
theorem DS.app {i:Nat} {x:Str} {l:List D} {d:D} {p ap cp ep:Pos} (hN:X.N[i]? = some x) (hv:Vis X.env.scope x) (hd:(x == ("__debug__" : Str))=false) (hcd:(x == ("__classdict__" : Str))=false) (hr:ρ[i]? = some (some (.ow l))) (he:DE X e (view ρ) (.val d)) (hs:By e=true) (hf:lf d=true) (hz:l.length<sizeLine)
  (hline:(ap.endLine == cp.line)=true):DS X (.Expr (.Call (.Attribute (.Name x p) "append" ap) [e] [] cp) ep) ρ (.nx (ρ.set i (some (.ow (l++[d]))))):=fun H0 Fc=>
 PS.mono (zpe (pe_bm Vl slot_list_append F.type_list_append znt (zgk hN hv hd hcd) (zle (he H0 Fc) zwp (B6 hs)) rfl (by rw [B6 hs];rfl) hline (B6 hs) rfl) rfl) fun D σ H ⟨F,S,k⟩=>by
  obtain⟨a,xs,h1,h2,h3⟩:=zfq S hr
  obtain⟨s0,R⟩:=S.borrow
  refine⟨_,h1,.inl ⟨rfl,xs,SqL.of h2⟩,_,R,fun v H2 F2 s2 R2 q=>?_⟩
  obtain⟨F3,s3,S3,q3⟩:=S.back s2 R2 q hf
  obtain⟨a',xs',g1,g2,g3⟩:=zfq S3 hr
  rw [h1] at g1;cases g1;have e3:H2 a=some (.lst xs):=by
   have:=s2 a (.lst xs) (by unfold DL.borrow;rw [if_pos ⟨i,l,hr,h1⟩];exact h2)
   exact R2.sub _ _ this
  rw [e3] at g2;cases g2;refine⟨a,xs,v,rfl,rfl,e3,by rw [h3.length];exact hz,k σ _ F3 s3 (S3.mut hr h1 (g3.append (DenL.cons q3 DenL.nil)))⟩
theorem yds {K:PySem.W.Frag} {F:Hp} {l:List D} {xs:List V} (h:DenL K F l xs) (hl:l≠[]):∃ y,xs[xs.length-1]? = some y/\DenL K F l.dropLast xs.dropLast:=by
 have hn:0<l.length:=List.length_pos_iff.mpr hl;have hd:=h.take (l.length-1);refine⟨xs[xs.length-1]'(by rw [h.length];omega),Ze _,?_⟩
 rw [Qs,Qs,h.length];exact hd
theorem DS.pop {i:Nat} {x:Str} {l:List D} {p ap cp ep:Pos} (hN:X.N[i]? = some x) (hv:Vis X.env.scope x) (hd:(x == ("__debug__" : Str))=false) (hcd:(x == ("__classdict__" : Str))=false) (hr:ρ[i]? = some (some (.ow l))) (hl:l≠[]) (hline:(ap.endLine == cp.line)=true) :
  DS X (.Expr (.Call (.Attribute (.Name x p) "pop" ap) [] [] cp) ep) ρ (.nx (ρ.set i (some (.ow l.dropLast)))):=fun H0 Fc=>
 PS.mono (zpe (yfn Vl F.slot_list_pop F.type_list_pop mt_pop (zgk hN hv hd hcd) rfl hline) rfl) fun D σ H hz=>xa hz fun F S k=>by
  refine xc (zfq S hr) fun a xs h1 h2 h3=>?_;refine xa (yds h3 hl) fun y g1 g2=>?_;exact⟨_,h1,.inl ⟨rfl,xs,SqL.of h2⟩,a,xs,y,rfl,rfl,h2,g1,k σ _ F (Same.refl _) (S.mut hr h1 g2)⟩
theorem DS.clr {i:Nat} {x:Str} {l:List D} {p ap cp ep:Pos} (hN:X.N[i]? = some x) (hv:Vis X.env.scope x) (hd:(x == ("__debug__" : Str))=false) (hcd:(x == ("__classdict__" : Str))=false) (hr:ρ[i]? = some (some (.ow l))) (hline:(ap.endLine == cp.line)=true) :
  DS X (.Expr (.Call (.Attribute (.Name x p) "clear" ap) [] [] cp) ep) ρ (.nx (ρ.set i (some (.ow [])))):=fun H0 Fc=>
 PS.mono (zpe (yfn Vl F.slot_list_clear F.type_list_clear ycs (zgk hN hv hd hcd) rfl hline) rfl) fun D σ H hz=>xa hz fun F S k=>by
  refine xc (zfq S hr) fun a xs h1 h2 h3=>?_;exact⟨_,h1,.inl ⟨rfl,xs,SqL.of h2⟩,a,xs,rfl,rfl,h2,k σ _ F (Same.refl _) (S.mut hr h1 DenL.nil)⟩
theorem DenL.set {K:PySem.W.Frag} {F:Hp} {d:D} {v:V} (q:Den K F d v):∀ {l:List D} {xs:List V} (n:Nat),DenL K F l xs->DenL K F (l.set n d) (xs.set n v)
 | [],_,n,h=>by rw [h.inv_nil];simpa using DenL.nil
 | e::l,_,0,h=>by
  refine xc h.inv_cons fun u us z q1 r=>?_;subst z;exact DenL.cons q r
 | e::l,_,n+1,h=>by
  refine xc h.inv_cons fun u us z q1 r=>?_;subst z;exact DenL.cons q1 (DenL.set q n r)
theorem DS.seti {i n:Nat} {x:Str} {l:List D} {d:D} {j:Int} {p sp ep:Pos} {k:Expr} (hN:X.N[i]? = some x) (hv:Vis X.env.scope x) (hd:(x == ("__debug__" : Str))=false) (hcd:(x == ("__classdict__" : Str))=false) (hr:ρ[i]? = some (some (.ow l))) (he:DE X e (view ρ) (.val d)) (hk:DF X k (view ρ) (.int j)) (hf:lf d=true) (hj:ixN l.length j=some n)
  (hsl:zeb k=true) (hsw:swapsWithSole [.Subscript (.Name x p) k sp] e ep.line X.env=pure false) (hw:swappedStores [.Subscript (.Name x p) k sp] e X.env=pure none):DS X (.Assign [.Subscript (.Name x p) k sp] e ep) ρ (.nx (ρ.set i (some (.ow (l.set n d))))):=fun H0 Fc=>
 PS.mono (yfl (he H0 Fc) (pg_sub (zgk hN hv hd hcd) (hk H0 Fc) ybo (by intro v;cases k <;> first | rfl | (cases hsl;done))) hsw hw rfl) fun D σ H hz=>xa hz fun F S kk=>by
  refine xc (zfq S hr) fun a xs h1 h2 h3=>?_;refine xg S.borrow fun s0 R=>?_;have ow:Owned σ ρ a:=⟨i,l,hr,h1⟩;refine⟨_,R,fun v H2 F2 s2 R2 q=>?_⟩
  refine⟨.ref a,h1,F2,R2,fun kv H3 F3 s3 R3 q3=>?_⟩
  refine xh (S.back (s2.trans s3) R3 (show RW X.K H0 F3 H3 (.val d) v from Den.mono s3 d q) hf) fun F4 s4 S4 q4=>?_;refine xc (zfq S4 hr) fun a' xs' g1 g2 g3=>?_;rw [h1] at g1;cases g1;have e3:H3 a=some (.lst xs):=by
   have:=(s2.trans s3) a (.lst xs) (by unfold DL.borrow;rw [if_pos ow];exact h2)
   exact R3.sub _ _ this
  rw [e3] at g2;cases g2;refine⟨a,xs,j,n,rfl,q3.int,e3,by rw [h3.length];exact hj,kk σ _ F4 s4 (S4.mut hr h1 (DenL.set q4 n g3))⟩
end
end DL
namespace DL
open PySem
theorem zni {xs:Array Nat} (hr:xs.toList.Pairwise (· < ·)) {a b x y:Nat} (h:a<b) (ha:xs[a]? = some x) (hb:xs[b]? = some y):x<y:=by
 rw [<- Zy] at ha hb;refine xb (Zn.mp ha) fun la ea=>?_;refine xb (Zn.mp hb) fun lb eb=>?_;have:=Q1.mp hr a b la lb h
 rw [ea,eb] at this;exact this
def Cut (xs:Array Nat) (j p:Nat):Prop:=p<=xs.size/\(∀ i x,i<p->xs[i]? = some x->x<j)/\(∀ i x,p<=i->xs[i]? = some x->j<=x)
theorem zmf {xs:Array Nat} {j:Nat} (hr:xs.toList.Pairwise (· < ·)):∀ (fuel lo hi:Nat),lo<=hi->hi<=xs.size->hi-lo<=fuel->(∀ i x,i<lo->xs[i]? = some x->x<j)->(∀ i x,hi<=i->xs[i]? = some x->j<=x) ->
  Cut xs j (SetTable.below.go xs j fuel lo hi)
 | 0,lo,hi,h1,h2,h3,h4,h5=>by
  have:lo=hi:=by omega
  subst this;exact⟨h2,h4,h5⟩
 | fuel+1,lo,hi,h1,h2,h3,h4,h5=>by
  unfold SetTable.below.go;by_cases hl:lo<hi
  ·rw [if_pos hl];have hm:(lo+hi)/2<xs.size:=by omega
   have e:xs[(lo+hi)/2]? = some (xs[(lo+hi)/2]):=by simp [hm]
   have eg:xs.getD ((lo+hi)/2) j=xs[(lo+hi)/2]:=by simp [Array.getD,hm]
   dsimp only;rw [eg];by_cases hj:xs[(lo+hi)/2]<j
   ·rw [if_pos hj];refine zmf hr fuel _ _ (by omega) h2 (by omega) (fun i x hi' hx=>?_) h5;by_cases hh:i=(lo+hi)/2
    ·subst hh;rw [e] at hx;cases hx;exact hj
    ·exact Nat.lt_trans (zni hr (by omega) hx e) hj
   ·rw [if_neg hj];refine zmf hr fuel _ _ (by omega) (by omega) (by omega) h4 (fun i x hi' hx=>?_);by_cases hh:i=(lo+hi)/2
    ·subst hh;rw [e] at hx;cases hx;omega
    ·have:=zni hr (show (lo+hi)/2<i by omega) e hx
     omega
  ·rw [if_neg hl];have:lo=hi:=by omega
   subst this;exact⟨h2,h4,h5⟩
theorem zfm {xs:Array Nat} {j:Nat} (hr:xs.toList.Pairwise (· < ·)):Cut xs j (SetTable.below xs j):=
 zmf hr _ _ _ (Yc _) (Zg _) (by omega) (fun i x h=>by omega) fun i x h e=>by
  have:xs[i]? = none:=by simp [h]
  rw [this] at e;cases e
theorem yeh {xs:Array Nat} {i j:Nat} (hr:xs.toList.Pairwise (· < ·)) (h:xs[i]? = some j):SetTable.below xs j=i:=by
 refine xi (zfm (j:=j) hr) fun a b c=>?_;have h1:¬ i<SetTable.below xs j:=fun q=>Nat.lt_irrefl _ (b i j q h)
 rcases Yw (SetTable.below xs j) i with q | q
 ·have hi:i<xs.size:=(Y3.mp h).1;have e:xs[SetTable.below xs j]? = some (xs[SetTable.below xs j]'(by omega)):=Zr _;have:=zni hr q e h
  have:=c _ _ (Zg _) e
  omega
 ·omega
theorem zzn {xs:Array Nat} {j:Nat} (h:j∉xs.toList):(xs[SetTable.below xs j]? == some j)=false:=by
 cases e:xs[SetTable.below xs j]? with
 | none=>rfl
 | some x=>
  by_cases q:x=j
  ·subst q;exact absurd (Zw (by rw [Zy];exact e)) h
  ·simpa using q
theorem zbs {t:SetTable} {i j:Nat} (hr:t.place.toList.Pairwise (· < ·)) (h:t.place[i]? = some j):t.slot j=.live i:=by
 unfold SetTable.slot;rw [yeh hr h];simp [h]
theorem zyd (j:Nat):SetTable.has #[] j=false:=rfl
theorem ztk {t:SetTable} {j:Nat} (hd:t.dummies = #[]) (h:j∉t.place.toList):t.slot j=.empty:=by
 unfold SetTable.slot;dsimp only;rw [zzn h,hd,zyd];rfl
theorem yii {xs:Array Nat} {j:Nat} (hr:xs.toList.Pairwise (· < ·)) (h:j∉xs.toList):(SetTable.insertAt xs (SetTable.below xs j) j).toList.Pairwise (· < ·):=by
 refine xi (zfm (j:=j) hr) fun a b c=>?_;rw [Vj];have hr':=hr;rw [<- Jy (SetTable.below xs j) xs.toList,Uk] at hr';rw [Uk,Z9];have h1:∀ x∈xs.toList.take (SetTable.below xs j),x<j:=fun x hx=>by
  refine xb (Yg hx) fun i hi=>?_;rw [G5] at hi;split at hi
  ·rename_i q;exact b i x q (by rw [<- Zy];exact hi)
  ·cases hi
 have h2:∀ x∈xs.toList.drop (SetTable.below xs j),j<x:=fun x hx=>by
  refine xb (Yg hx) fun i hi=>?_;rw [K0] at hi;have:=c (SetTable.below xs j+i) x (by omega) (by rw [<- Zy];exact hi)
  have:x≠j:=fun e=>h (by rw [<- e];exact Ul hx)
  omega
 refine⟨hr'.1,⟨h2,hr'.2.1⟩,fun x hx y hy=>?_⟩
 rcases Zf.mp hy with e | hy
 ·rw [e];exact h1 x hx
 ·exact Nat.lt_trans (h1 x hx) (h2 y hy)
def zth (mask:Nat) (p:SetTable.Probe):SetTable.Probe:=
 if p.more > 0 then {p with j:=p.j+1,more:=p.more-1} else
 {p with j:=(SetTable.leap mask p.i p.perturb).1,more:=SetTable.runEnd mask (SetTable.leap mask p.i p.perturb).1-(SetTable.leap mask p.i p.perturb).1,i:=(SetTable.leap mask p.i p.perturb).1,perturb:=(SetTable.leap mask p.i p.perturb).2}
def zts (mask i p:Nat):SetTable.Probe:={j:=i,more:=SetTable.runEnd mask i-i,i:=i,perturb:=p,dummy:=none}
def way (mask:Nat) (h:Int):Nat->SetTable.Probe
 | 0=>zts mask (SetTable.bits h%(mask+1)) (SetTable.bits h)
 | n+1=>zth mask (way mask h n)
def lp (mask:Nat) (h:Int):Nat->Nat×Nat
 | 0=>(SetTable.bits h%(mask+1),SetTable.bits h)
 | l+1=>SetTable.leap mask (lp mask h l).1 (lp mask h l).2
theorem zey {mask i:Nat} (h:i<=mask):SetTable.runEnd mask i<=mask/\SetTable.runEnd mask i-i<=9/\i<=SetTable.runEnd mask i:=by
 unfold SetTable.runEnd;split <;> omega
theorem zxu (mask i p:Nat):(SetTable.leap mask i p).1<=mask:=by
 unfold SetTable.leap;exact Br (Qj _ (Gp _))
theorem ycv (mask:Nat) (h:Int):∀ l,(lp mask h l).1<=mask
 | 0=>Br (Qj _ (Gp _))
 | l+1=>zxu _ _ _
theorem zuo (mask:Nat) (h:Int):∀ n,(way mask h n).j+(way mask h n).more<=mask/\(way mask h n).dummy=none
 | 0=>by
  have:=zey (ycv mask h 0)
  exact⟨show (lp mask h 0).1+(SetTable.runEnd mask (lp mask h 0).1-(lp mask h 0).1)<=mask by omega,rfl⟩
 | n+1=>by
  refine xg (zuo mask h n) fun a b=>?_;unfold way zth;split
  ·exact⟨by dsimp only;omega,b⟩
  ·have:=zey (zxu mask (way mask h n).i (way mask h n).perturb)
   exact⟨by dsimp only;omega,b⟩
theorem yez (mask:Nat) (h:Int) (n:Nat):(way mask h n).j<=mask:=by
 have:=(zuo mask h n).1
 omega
theorem zow {mask i p n:Nat} {h:Int} (e:way mask h n=zts mask i p):∀ k,k<=SetTable.runEnd mask i-i->way mask h (n+k)={j:=i+k,more:=SetTable.runEnd mask i-i-k,i:=i,perturb:=p,dummy:=none}
 | 0,_=>e
 | k+1,hk=>by
  have ih:=zow e k (by omega);show zth mask (way mask h (n+k))=_;rw [ih];unfold zth;rw [if_pos (by dsimp only;omega)];simp only [Nat.add_assoc,Nat.sub_sub]
theorem zqi {mask i p n:Nat} {h:Int} (e:way mask h n=zts mask i p):way mask h (n+(SetTable.runEnd mask i-i)+1)=zts mask (SetTable.leap mask i p).1 (SetTable.leap mask i p).2:=by
 have ih:=zow e _ (Zg _);show zth mask (way mask h (n+(SetTable.runEnd mask i-i)))=_;rw [ih];unfold zth;rw [if_neg (by dsimp only;omega)];rfl
theorem zqh (mask:Nat) (h:Int):∀ l,∃ n,n<=10*l/\way mask h n=zts mask (lp mask h l).1 (lp mask h l).2
 | 0=>⟨0,Zg _,rfl⟩
 | l+1=>by
  refine xa (zqh mask h l) fun n hn e=>?_;have:=zey (ycv mask h l)
  exact⟨_,by omega,zqi e⟩
def orb (m:Nat):Nat->Nat->Nat
 | 0,a=>a
 | t+1,a=>(orb m t a*5+1)%(m+1)
theorem zij (m:Nat) (s a:Nat):∀ t,orb m (s+t) a=orb m t (orb m s a)
 | 0=>rfl
 | t+1=>by
  show (orb m (s+t) a*5+1)%(m+1)=_;rw [zij m s a t];rfl
def orbL (m:Nat):Nat->Nat->List Nat
 | 0,_=>[]
 | t+1,a=>a::orbL m t ((a*5+1)%(m+1))
theorem ycn (m a:Nat) (t:Nat):orb m (t+1) a=orb m t ((a*5+1)%(m+1)):=by
 rw [Ve];exact zij m 1 a t
theorem zlf {m:Nat}:∀ {t a b:Nat},b∈orbL m t a->∃ s,s<t/\orb m s a=b
 | 0,_,_,h=>by cases h
 | t+1,a,b,h=>by
  rcases Zf.mp h with e | h
  ·exact⟨0,Gp _,e.symm⟩
  ·refine xa (zlf h) fun s h1 h2=>?_;exact⟨s+1,by omega,by rw [ycn];exact h2⟩
def okM (m:Nat):Prop:=m=7\/m=31\/m=127
def memB (b:Nat):List Nat->Bool
 | []=>false
 | x::l=>cond (Nat.beq b x) true (memB b l)
theorem zrr {b:Nat}:∀ {l:List Nat},memB b l=true->b∈l
 | [],h=>by cases h
 | x::l,h=>by
  unfold memB at h;cases e:Nat.beq b x with
  | true=>rw [Nat.eq_of_beq_eq_true e];exact .head _
  | false=>rw [e] at h;exact .tail _ (zrr h)
def zhj (l:List Nat):Nat->Bool
 | 0=>true
 | n+1=>cond (memB n l) (zhj l n) false
theorem zdz {l:List Nat}:∀ {n b:Nat},zhj l n=true->b<n->b∈l
 | 0,_,_,h=>by omega
 | n+1,b,h,hb=>by
  unfold zhj at h;cases e:memB n l with
  | false=>rw [e] at h;cases h
  | true=>
   rw [e] at h;by_cases q:b=n
   ·subst q;exact zrr e
   ·exact zdz h (by omega)
theorem ycm {m:Nat} (h:okM m):orb m (m+1) 0=0/\zhj (orbL m (m+1) 0) (m+1)=true:=by
 rcases h with h | h | h <;> (subst h;exact⟨by decide +kernel,by decide +kernel⟩)
theorem yix {m a b:Nat} (h:okM m) (ha:a<=m) (hb:b<=m):∃ t,t<=m/\orb m t a=b:=by
 refine xg (ycm h) fun h0 h1=>?_;obtain⟨s,hs,es⟩:=zlf (zdz h1 (show a<m+1 by omega))
 obtain⟨t,ht,et⟩:=zlf (zdz h1 (show b<m+1 by omega))
 by_cases q:s<=t
 ·refine⟨t-s,by omega,?_⟩
  rw [<- es,<- zij,show s+(t-s)=t by omega];exact et
 ·refine⟨m+1+t-s,by omega,?_⟩
  rw [<- es,<- zij,show s+(m+1+t-s)=m+1+t by omega,zij,h0];exact et
theorem yfy (mask:Nat) (h:Int):∀ l,(lp mask h l).2=SetTable.bits h/32^l
 | 0=>by simp [lp]
 | l+1=>by
  show (lp mask h l).2/32=_;rw [yfy mask h l,Gg,Ja]
theorem ylm (h:Int):SetTable.bits h<2^64:=by
 unfold SetTable.bits;have:=Yl h (show (0:Int)<2^64 by decide)
 have:=Yh h (show (2:Int)^64≠0 by decide)
 omega
theorem zxl (mask:Nat) (h:Int):∀ t,(lp mask h (12+t)).1=orb mask t (lp mask h 12).1
 | 0=>rfl
 | t+1=>by
  show (SetTable.leap mask (lp mask h (12+t)).1 (lp mask h (12+t)).2).1=_;have e:(lp mask h (12+t)).2/32=0:=by
   rw [yfy,Gg];refine Nat.div_eq_of_lt (Zl (ylm h) ?_);have h1:(32:Nat)^13<=32^(12+t)*32:=by
    rw [<- Ja];exact Ku (by decide) (by omega)
   exact Yn (by decide) h1
  unfold SetTable.leap;rw [e,zxl mask h t];rfl
theorem yfz {m b:Nat} (hm:okM m) (h:Int) (hb:b<=m):∃ l,l<=m+12/\(lp m h l).1=b:=by
 refine xa (yix hm (ycv m h 12) hb) fun t ht e=>?_;exact⟨12+t,by omega,by rw [zxl];exact e⟩
theorem ygv {m b:Nat} (hm:okM m) (h:Int) (hb:b<=m):∃ n,n<=10*(m+12)/\(way m h n).j=b:=by
 refine xa (yfz hm h hb) fun l hl e=>?_;refine xa (zqh m h l) fun n hn e2=>?_;exact⟨n,by omega,by rw [e2];exact e⟩
theorem zsc:∀ {n:Nat} {l:List Nat},(∀ j,j<n->j∈l)->n<=l.length
 | 0,_,_=>Yc _
 | n+1,l,h=>by
  have hn:=h n (Qa n);have:=zsc (n:=n) (l:=l.erase n) fun j hj=>(List.mem_erase_of_ne (by omega)).mpr (h j (by omega))
  have e:=List.length_erase_of_mem hn;have:0<l.length:=List.length_pos_of_mem hn
  omega
theorem room {l:List Nat} {m:Nat} (h:l.length<=m):∃ j,j<=m/\j∉l:=by
 refine Yf fun q=>?_;have:=zsc (n:=m+1) (l:=l) fun j hj=>Yf fun z=>q ⟨j,by omega,z⟩
 omega
theorem least {P:Nat->Prop}:∀ {n:Nat},P n->∃ m,m<=n/\P m/\∀ k,k<m -> ¬ P k:=by
 intro n;induction n using Nat.strongRecOn with
 | ind n ih=>
  intro h;by_cases q:∃ k,k<n/\P k
  ·refine xa q fun k hk pk=>?_;clear q
   refine xh (ih k hk pk) fun m a b c=>?_;exact⟨m,by omega,b,c⟩
  ·exact⟨n,Zg _,h,fun k hk pk=>q ⟨k,hk,pk⟩⟩
theorem zrd {t:SetTable} {hashAt:Nat->Int} {h:Int} (hd:t.dummies = #[]) (hr:t.place.toList.Pairwise (· < ·)) {n0:Nat} (hstop:(way t.mask h n0).j∉t.place.toList\/∃ i,t.place[i]? = some (way t.mask h n0).j/\hashAt i=h) :
  ∀ (fuel n:Nat),n<=n0->n0-n<fuel->(∀ m,n<=m->m<n0->∃ i:Nat,t.place[i]? = some (way t.mask h m).j) ->
   (∃ m i,n<=m/\m<=n0/\t.place[i]? = some (way t.mask h m).j/\hashAt i=h/\SetTable.probe.go t hashAt h fuel (way t.mask h n)=some (.candidate (way t.mask h m).j i (way t.mask h (m+1)))) \/
   ((way t.mask h n0).j∉t.place.toList/\SetTable.probe.go t hashAt h fuel (way t.mask h n)=some (.empty (way t.mask h n0).j none))
 | 0,n,h1,h2,_=>by omega
 | fuel+1,n,h1,h2,h3=>by
  by_cases hn:n=n0
  ·subst hn;rcases hstop with q | ⟨i,q,e⟩
   ·refine .inr ⟨q,?_⟩;unfold SetTable.probe.go;rw [ztk hd q];dsimp only;rw [(zuo t.mask h n).2]
   ·refine .inl ⟨n,i,h1,Zg _,q,e,?_⟩;unfold SetTable.probe.go;rw [zbs hr q];dsimp only;rw [if_pos (by simpa using e)];rfl
  ·refine xb (h3 n (Zg _) (by omega)) fun i q=>?_;by_cases e:hashAt i=h
   ·refine .inl ⟨n,i,Zg _,h1,q,e,?_⟩;unfold SetTable.probe.go;rw [zbs hr q];dsimp only;rw [if_pos (by simpa using e)];rfl
   ·have ih:=zrd hd hr hstop fuel (n+1) (by omega) (by omega) fun m a b=>h3 m (by omega) b
    have e2:SetTable.probe.go t hashAt h (fuel+1) (way t.mask h n)=SetTable.probe.go t hashAt h fuel (way t.mask h (n+1)):=by
     conv=>lhs;unfold SetTable.probe.go
     rw [zbs hr q];dsimp only;rw [if_neg (by simpa using e)];rfl
    rw [e2];rcases ih with⟨m,i',a,b,c,d,f⟩ | ⟨a,b⟩
    ·exact .inl ⟨m,i',by omega,b,c,d,f⟩
    ·exact .inr ⟨a,b⟩
end DL
namespace DL
open PySem
structure TOk (t:SetTable) (es:Array (Int×Value)):Prop where
 mask:okM t.mask
 dum:t.dummies = #[]
 ris:t.place.toList.Pairwise (· < ·)
 size:t.place.size=es.size
 le:∀ j∈t.place.toList,j<=t.mask
 wy:∀ (i:Nat) (h:Int) (v:Value),es[i]? = some (h,v)->∃ n,n<=10*(t.mask+13)/\t.place[i]? = some (DL.way t.mask h n).j/\∀ n',n'<n->(DL.way t.mask h n').j∈t.place.toList
theorem ins_get {α:Type} {l:List α} {p:Nat} {x:α} (hp:p<=l.length) (i:Nat):(l.take p++x::l.drop p)[i]? = if i<p then l[i]? else if i=p then some x else l[i-1]?:=by
 have hlen:(l.take p).length=p:=by rw [W9];omega
 by_cases h1:i<p
 ·rw [if_pos h1,Z4 (by rw [hlen];exact h1),G5,if_pos h1]
 ·rw [if_neg h1,Zx (by rw [hlen];omega),hlen];by_cases h2:i=p
  ·subst h2;simp
  ·rw [if_neg h2];obtain⟨k,hk⟩:∃ k,i-p=k+1:=⟨i-p-1,by omega⟩
   rw [hk,Kc,K0];congr 1;omega
theorem zry {α:Type} {l:Array α} {p:Nat} {x:α} (hp:p<=l.size) (i:Nat):(SetTable.insertAt l p x)[i]? = if i<p then l[i]? else if i=p then some x else l[i-1]?:=by
 rw [<- Zy,Vj,ins_get (by simpa using hp)];simp only [Zy]
theorem put_eq {t:SetTable} (hd:t.dummies = #[]) (j:Nat):t.put j=({t with place:=SetTable.insertAt t.place (SetTable.below t.place j) j},SetTable.below t.place j):=by
 unfold SetTable.put;dsimp only;rw [hd,zyd];simp only [Z0,if_false]
theorem TOk.put {t:SetTable} {es:Array (Int×Value)} (T:TOk t es) {h:Int} {x:Value} {n:Nat} (hn:n<=10*(t.mask+13)) (hj:(way t.mask h n).j∉t.place.toList) (hb:∀ n',n'<n->(way t.mask h n').j∈t.place.toList) :
  TOk {t with place:=SetTable.insertAt t.place (SetTable.below t.place (way t.mask h n).j) (way t.mask h n).j} (SetTable.insertAt es (SetTable.below t.place (way t.mask h n).j) (h,x)):=by
 have hc:=(zfm (j:=(way t.mask h n).j) T.ris).1;have hc2:SetTable.below t.place (way t.mask h n).j<=es.size:=by rw [<- T.size];exact hc
 have hm:∀ y,y∈t.place.toList->y∈(SetTable.insertAt t.place (SetTable.below t.place (way t.mask h n).j) (way t.mask h n).j).toList:=fun y hy=>by
  have:=(Ql t.place (SetTable.below t.place (way t.mask h n).j) (way t.mask h n).j).mem_iff (a:=y)
  rw [this,Kh];exact W1 _ hy
 refine⟨T.mask,T.dum,yii T.ris hj,?_,fun y hy=>?_,fun i h' v e=>?_⟩
 ·have e1:=(Ql t.place (SetTable.below t.place (way t.mask h n).j) (way t.mask h n).j).length_eq;have e2:=(Ql es (SetTable.below t.place (way t.mask h n).j) (h,x)).length_eq;rw [Z6,Z6,Bv] at e1 e2;rw [e1,e2,T.size]
 ·have:=(Ql t.place (SetTable.below t.place (way t.mask h n).j) (way t.mask h n).j).mem_iff (a:=y)
  rw [this,Kh] at hy;rcases Y6.mp hy with hy | hy
  ·exact T.le y hy
  ·rw [Zu.mp hy];exact yez _ _ _
 ·rw [zry hc2] at e;dsimp only;rw [zry hc];by_cases h1:i<SetTable.below t.place (way t.mask h n).j
  ·rw [if_pos h1] at e |-;refine xh (T.wy i h' v e) fun n2 a b c=>?_;exact⟨n2,a,b,fun n' q=>hm _ (c n' q)⟩
  ·rw [if_neg h1] at e |-;by_cases h2:i=SetTable.below t.place (way t.mask h n).j
   ·rw [if_pos h2] at e |-;cases e;exact⟨n,hn,rfl,fun n' q=>hm _ (hb n' q)⟩
   ·rw [if_neg h2] at e |-;refine xh (T.wy (i-1) h' v e) fun n2 a b c=>?_;exact⟨n2,a,b,fun n' q=>hm _ (c n' q)⟩
theorem TOk.plain {t:SetTable} {es:Array (Int×Value)} (T:TOk t es) (b:Bool):TOk {t with plain:=b} es:=⟨T.mask,T.dum,T.ris,T.size,T.le,T.wy⟩
theorem TOk.fresh (f m:Nat) (led:Bool):TOk (SetTable.fresh f m led) #[]:=⟨.inl rfl,rfl,by simp [SetTable.fresh],rfl,fun j hj=>by simp [SetTable.fresh] at hj,fun i h v e=>by simp at e⟩
def Own (mask:Nat) (hs:List Int) (owner:Array (Option Nat)) (sl:List Nat):Prop:=
 sl.length=hs.length/\owner.size=mask+1/\(∀ j q:Nat,owner[j]? = some (some q)↔sl[q]? = some j)/\∀ (q:Nat) (h:Int),hs[q]? = some h->∃ n,n<=10*(mask+13)/\sl[q]? = some (way mask h n).j/\∀ n',n'<n->(way mask h n').j∈sl
theorem zyg {owner:Array (Option Nat)} {j:Nat} (hj:j<owner.size) (q:(owner.getD j (some 0)).isNone=false):∃ r,owner[j]? = some (some r):=by
 have e1:owner.getD j (some 0)=owner[j]:=by simp [Array.getD,hj]
 rw [e1] at q;cases z:owner[j] with
 | none=>rw [z] at q;cases q
 | some r=>exact⟨r,by rw [Zr hj,z]⟩
theorem yjz {owner:Array (Option Nat)} {j:Nat} (hj:j<owner.size) (q:(owner.getD j (some 0)).isNone=true):owner[j]? = some none:=by
 have e1:owner.getD j (some 0)=owner[j]:=by simp [Array.getD,hj]
 rw [e1] at q;rw [Zr hj];cases z:owner[j] with
 | none=>rfl
 | some r=>rw [z] at q;cases q
theorem yff {mask n m P R:Nat} {owner:Array (Option Nat)} {w:Nat->Nat} (hz:owner.size=mask+1) (hR:R<=mask) (hP:P<=R) (occ:∀ k,k<=R-P->w (n+k)=P+k) (h5:∀ n',n'<n->∃ r,owner[w n']? = some (some r)) (hm:m<=R+1-P) (c:∀ i,i<m->(owner.getD (P+i) (some 0)).isNone=false) :
  ∀ n',n'<n+m->∃ r,owner[w n']? = some (some r):=fun n' hn'=>by
 by_cases q:n'<n
 ·exact h5 n' q
 ·obtain⟨i,e⟩:∃ i,n'=n+i:=⟨n'-n,by omega⟩
  subst e;have hi:i<m:=by omega
  rw [occ i (by omega)];exact zyg (by omega) (c i hi)
theorem zyi {mask:Nat} {owner:Array (Option Nat)} {h:Int} (hz:owner.size=mask+1) {l0:Nat} (h0:owner[(lp mask h l0).1]? = some none) :
  ∀ (fuel l n:Nat),way mask h n=zts mask (lp mask h l).1 (lp mask h l).2->n<=10*l->l<=l0->l0-l<fuel->(∀ n',n'<n->∃ r,owner[(way mask h n').j]? = some (some r)) ->
   ∃ n1,n1<=10*l0+9/\SetTable.layClean.free mask owner fuel (lp mask h l).1 (lp mask h l).2=some (way mask h n1).j/\owner[(way mask h n1).j]? = some none/\∀ n',n'<n1->∃ r,owner[(way mask h n').j]? = some (some r)
 | 0,l,n,_,_,h3,h4,_=>by omega
 | fuel+1,l,n,e,h2,h3,h4,h5=>by
  have hre:=zey (ycv mask h l);have occ:∀ k,k<=SetTable.runEnd mask (lp mask h l).1-(lp mask h l).1->(way mask h (n+k)).j=(lp mask h l).1+k:=fun k hk=>by rw [zow e k hk]
  have nxt:=zqi e;unfold SetTable.layClean.free;cases hf:(List.range (SetTable.runEnd mask (lp mask h l).1+1-(lp mask h l).1)).find? fun k=>(owner.getD ((lp mask h l).1+k) (some 0)).isNone with
  | some k=>
   dsimp only;refine xi (List.find?_range_eq_some.mp hf) fun a b c=>?_;rw [Qd] at b;have hk:k<=SetTable.runEnd mask (lp mask h l).1-(lp mask h l).1:=by omega
   refine⟨n+k,by omega,by rw [occ k hk],by rw [occ k hk];exact yjz (by omega) a,yff hz hre.1 hre.2.2 occ h5 (by omega) fun i hi=>by simpa using c i hi⟩
  | none=>
   dsimp only;have c:=List.find?_range_eq_none.mp hf;have c':∀ i,i<SetTable.runEnd mask (lp mask h l).1+1-(lp mask h l).1->(owner.getD ((lp mask h l).1+i) (some 0)).isNone=false:=fun i hi=>by simpa using c i hi
   have hl:l≠l0:=fun q=>by
    subst q;refine xb (zyg (by omega) (c' 0 (by omega))) fun r hr=>?_;rw [Nat.add_zero,h0] at hr;cases hr
   exact zyi hz h0 fuel (l+1) _ nxt (by omega) (by omega) (by omega) fun n' hn'=>yff hz hre.1 hre.2.2 occ h5 (Zg _) c' n' (by omega)
def zlm (mask:Nat) (acc:Option (Array (Option Nat)×Nat)) (h:Int):Option (Array (Option Nat)×Nat):=do
  let (owner,k) <- acc
  let j <- SetTable.layClean.free mask owner (SetTable.turns mask) (SetTable.bits h%(mask+1)) (SetTable.bits h)
  pure (owner.setIfInBounds j (some k),k+1)
theorem zpp (mask:Nat) (hs:Array Int):SetTable.layClean mask hs=(hs.toList.foldl (zlm mask) (some (Array.replicate (mask+1) none,0))).map (·.1):=by
 rw [Array.foldl_toList];rfl
theorem ycl {mask:Nat} (hm:okM mask) {hs:List Int} {owner:Array (Option Nat)} {sl:List Nat} (O:Own mask hs owner sl) (hl:hs.length<=mask) (h:Int) :
  ∃ owner' sl',zlm mask (some (owner,hs.length)) h=some (owner',hs.length+1)/\Own mask (hs++[h]) owner' sl':=by
 refine xk O fun o1 o2 o3 o4=>?_;clear O
 refine xa (room (l:=sl) (m:=mask) (by omega)) fun j0 hj0 hn0=>?_;refine xa (yfz hm h hj0) fun l0 hl0 e0=>?_;have h0:owner[(lp mask h l0).1]? = some none:=by
  rw [e0];have hj':j0<owner.size:=by omega
  rw [Zr hj'];cases z:owner[j0] with
  | none=>rfl
  | some r=>
   have:owner[j0]? = some (some r):=by rw [Zr hj',z]
   exact absurd (Zw ((o3 j0 r).mp this)) hn0
 obtain⟨n1,a1,a2,a3,a4⟩:=zyi o2 h0 (SetTable.turns mask) 0 0 rfl (Zg _) (Yc _) (by unfold SetTable.turns;omega) fun n' q=>by omega
 refine⟨owner.setIfInBounds (way mask h n1).j (some hs.length),sl++[(way mask h n1).j],?_,?_,?_,fun j q=>?_,fun q h' e=>?_⟩
 ·unfold zlm;show (do let j <- SetTable.layClean.free mask owner (SetTable.turns mask) (SetTable.bits h%(mask+1)) (SetTable.bits h);pure (owner.setIfInBounds j (some hs.length),hs.length+1))=_;rw [show SetTable.layClean.free mask owner (SetTable.turns mask) (SetTable.bits h%(mask+1)) (SetTable.bits h)=some (way mask h n1).j from a2];rfl
 ·rw [Zs,Zs,o1];rfl
 ·rw [Array.size_setIfInBounds];exact o2
 ·have hj1:(way mask h n1).j<owner.size:=by have:=yez mask h n1;omega
  rw [Array.getElem?_setIfInBounds];by_cases q1:(way mask h n1).j=j
  ·subst q1;rw [if_pos rfl,if_pos hj1];constructor
   ·intro e;cases e;rw [<- o1];simp
   ·intro e;by_cases q2:q<sl.length
    ·rw [Z4 q2] at e;have:=(o3 _ q).mpr e
     rw [a3] at this;cases this
    ·have hq:q<(sl++[(way mask h n1).j]).length:=(Zn.mp e).1;rw [Zs] at hq;have:q=sl.length:=by simp at hq;omega
     rw [this,o1]
  ·rw [if_neg q1,o3];by_cases q2:q<sl.length
   ·rw [Z4 q2]
   ·rw [Yz (by omega),Zx (by omega)];constructor
    ·intro e;cases e
    ·intro e;exfalso
     cases z:q-sl.length with
     | zero=>rw [z] at e;simp at e;exact q1 e
     | succ k=>rw [z] at e;simp at e
 ·have mm:∀ y,y∈sl->y∈sl++[(way mask h n1).j]:=fun y hy=>W1 _ hy
  by_cases q2:q<hs.length
  ·rw [Z4 q2] at e;refine xh (o4 q h' e) fun n b1 b2 b3=>?_;exact⟨n,b1,by rw [Z4 (by omega)];exact b2,fun n' q=>mm _ (b3 n' q)⟩
  ·have hq:q<(hs++[h]).length:=(Zn.mp e).1;rw [Zs] at hq;have eq:q=hs.length:=by simp at hq;omega
   subst eq;rw [Zx (Zg _),Qu] at e;cases e;refine⟨n1,by omega,?_,fun n' q=>?_⟩
   ·rw [<- o1];simp
   ·refine xb (a4 n' q) fun r hr=>?_;exact mm _ (Zw ((o3 _ r).mp hr))
theorem zwq {mask:Nat} (hm:okM mask):∀ (h2 h1:List Int) (owner:Array (Option Nat)) (sl:List Nat),Own mask h1 owner sl->h1.length+h2.length<=mask ->
  ∃ owner' sl',h2.foldl (zlm mask) (some (owner,h1.length))=some (owner',h1.length+h2.length)/\Own mask (h1++h2) owner' sl'
 | [],h1,owner,sl,O,_=>⟨owner,sl,rfl,by rw [W5];exact O⟩
 | h::h2,h1,owner,sl,O,hl=>by
  rw [Zk] at hl;refine xj (ycl hm O (by omega) h) fun o' s' e O'=>?_;refine xj (zwq hm h2 (h1++[h]) o' s' O' (by rw [Zs];simp;omega)) fun o2 s2 e2 O2=>?_;refine⟨o2,s2,?_,by rw [Wm] at O2;exact O2⟩
  rw [Vq,e];rw [Zs] at e2;rw [show h1.length+[h].length=h1.length+1 from rfl] at e2;rw [e2,Zk];congr 2;omega
theorem yiu (mask:Nat):Own mask [] (Array.replicate (mask+1) none) []:=⟨rfl,by simp,fun j q=>by
 rw [Array.getElem?_replicate];constructor
 ·intro e;split at e <;> cases e
 ·intro e;simp at e,fun q h e=>by simp at e⟩
theorem ygj {α β:Type} {f:α->Option β}:∀ {l:List α},(∀ q∈l,∃ e,f q=some e)->∀ i:Nat,(l.filterMap f)[i]? = (l[i]?).bind f
 | [],_,i=>by simp
 | a::l,h,i=>by
  refine xb (h a (.head _)) fun e he=>?_;rw [List.filterMap_cons_some he];cases i with
  | zero=>simp [he]
  | succ i=>
   rw [Kc,Kc];exact ygj (fun q hq=>h q (.tail _ hq)) i
theorem yjr {mask finger moves:Nat} {led plain:Bool} (hm:okM mask) {es:Array (Int×Value)} (hl:es.size<=mask) :
  ∃ t' order,SetTable.laid mask finger moves led plain (es.map (·.1))=some (t',order)/\t'.mask=mask/\t'.led=led/\t'.plain=plain/\(order.filterMap (es[·]?)).toList.Perm es.toList/\TOk t' (order.filterMap (es[·]?)):=by
 have hhs:(es.map (·.1)).toList.length=es.size:=by rw [Z6,Array.size_map]
 refine xj (zwq hm (es.map (·.1)).toList [] _ _ (yiu mask) (by rw [hhs,Ym];omega)) fun owner sl e1 O=>?_;refine xk O fun o1 o2 o3 o4=>?_;clear O
 rw [Wo] at o1 o4;rw [hhs] at o1;have lc:SetTable.layClean mask (es.map (·.1))=some owner:=by
  rw [zpp];rw [show (some (Array.replicate (mask+1) none,0):Option (Array (Option Nat)×Nat))=some (Array.replicate (mask+1) none,([]:List Int).length) from rfl,e1];rfl
 let L:List (Nat×Nat):=(List.range (mask+1)).filterMap fun j=>(owner.getD j none).map (j,·)
 have hL:∀ j q,(j,q)∈L↔owner[j]? = some (some q):=fun j q=>by
  constructor
  ·intro h;refine xa (Kb.mp h) fun j' hj' e=>?_;refine xa (Zb.mp e) fun q' hq' e=>?_;cases e;have hlt:j<owner.size:=by rw [Qd] at hj';omega
   have e1:owner.getD j none=owner[j]:=by simp [Array.getD,hlt]
   rw [e1] at hq';rw [Zr hlt,hq']
  ·intro h;refine xb (Y3.mp h) fun hlt e=>?_;refine Kb.mpr ⟨j,Qd.mpr (by omega),?_⟩;have e1:owner.getD j none=owner[j]:=by simp [Array.getD,hlt]
   rw [e1,e];rfl
 have hP:L.Pairwise fun a b=>a.1<b.1:=by
  refine List.Pairwise.filterMap (R:=(· < ·)) _ (fun a a' h b hb b' hb'=>?_) List.pairwise_lt_range;refine xa (Zb.mp hb) fun q _ e=>?_;refine xa (Zb.mp hb') fun q' _ e'=>?_;subst e;subst e';exact h
 have hnd:(L.map (·.2)).Nodup:=by
  unfold List.Nodup;rw [W4];refine Ks (fun {a b} ha hb h e=>?_) hP;obtain⟨a1,a2⟩:=a
  obtain⟨b1,b2⟩:=b
  have e':a2=b2:=e;subst e';have z1:=(o3 _ _).mp ((hL _ _).mp ha);have z2:=(o3 _ _).mp ((hL _ _).mp hb);rw [z1] at z2;cases z2;exact Nat.lt_irrefl _ h
 have hmem:∀ q,q∈L.map (·.2)↔q∈List.range es.size:=fun q=>by
  rw [Qd];constructor
  ·intro h;obtain⟨⟨j,q'⟩,ha,e⟩:=Z1.mp h
   have e':q'=q:=e;subst e';have:=(Zn.mp ((o3 _ _).mp ((hL _ _).mp ha))).1
   omega
  ·intro h;have:sl[q]? = some (sl[q]'(by omega)):=Ze _
   exact Z1.mpr ⟨(_,q),(hL _ _).mpr ((o3 _ _).mpr this),rfl⟩
 have hperm:(L.map (·.2)).Perm (List.range es.size):=(List.perm_ext_iff_of_nodup hnd Bt).mpr hmem;have hall:∀ q∈L.map (·.2),∃ e,(es[·]?) q=some e:=fun q hq=>by
  have:=(hmem q).mp hq
  rw [Qd] at this;exact⟨es[q],Zr this⟩
 have hes:((L.map (·.2)).toArray.filterMap (es[·]?)).toList=(L.map (·.2)).filterMap (es[·]?):=by rw [Array.toList_filterMap]
 have hpe:((L.map (·.2)).toArray.filterMap (es[·]?)).toList.Perm es.toList:=by
  rw [hes];exact (hperm.filterMap _).trans (by rw [filterMap_getElem?_range])
 refine⟨{mask,place:=(L.map (·.1)).toArray,dummies:=#[],finger,led,moves,plain},(L.map (·.2)).toArray,?_,rfl,rfl,rfl,hpe,hm,rfl,?_,?_,fun j hj=>?_,fun i h v e=>?_⟩
 ·unfold SetTable.laid;rw [lc];rfl
 ·show (L.map (·.1)).Pairwise (· < ·);rw [W4];exact hP
 ·show (L.map (·.1)).toArray.size=_;have:=hpe.length_eq
  rw [Z6,Z6] at this;rw [this,Zv,Zd];have:=hperm.length_eq
  rw [Zd,Qw] at this;exact this
 ·obtain⟨⟨j',q⟩,ha,e⟩:=Z1.mp (show j∈L.map (·.1) from hj)
  have e':j'=j:=e;subst e';have:=(Y3.mp ((hL _ _).mp ha)).1
  show j'<=mask;omega
 ·rw [<- Zy,hes,ygj hall,Zj] at e;cases z:L[i]? with
  | none=>rw [z] at e;cases e
  | some a=>
   obtain⟨j,q⟩:=a
   rw [z] at e;have e':es[q]? = some (h,v):=e;have hj:=(o3 _ _).mp ((hL _ _).mp (Zw z));refine xh (o4 q h (by rw [Zy,Array.getElem?_map,e'];rfl)) fun n b1 b2 b3=>?_;rw [hj] at b2;refine⟨n,b1,?_,fun n' q'=>?_⟩
   ·show (L.map (·.1)).toArray[i]? = _;rw [List.getElem?_toArray,Zj,z];exact congrArg some (Ye b2)
   ·refine xb (Yg (b3 n' q')) fun q2 e2=>?_;show _∈L.map (·.1);exact Z1.mpr ⟨(_,q2),(hL _ _).mpr ((o3 _ _).mpr e2),rfl⟩
end DL
namespace DL
open PySem
section
variable {prog:Program} {w:World} {A:Around} {E:Value->Shared->Prop} {s:Shared}
abbrev IsTK (prog:Program) (w:World) (h:Heap) (k:List Int) (a:Addr):Prop:=IsTupleKey (intKind prog w) h k a
abbrev B0 (prog:Program) (w:World) (k:List Int):Int:=tupleKeyHash (intKind prog w) k
def ent (prog:Program) (w:World) (x:List Int×Addr):Int×Value:=(B0 prog w x.1,.ref x.2)
theorem items_int {ks:List Int} {vs:List Value} (h:ItemsAre (intKind prog w) ks vs):∀ v∈vs,∃ i t,v=.int i t:=by
 induction h with
 | nil=>intro v hv;cases hv
 | cons h1 _ ih=>
  intro v hv;rcases Zf.mp hv with e | hv
  ·subst e;refine xb (Jf h1) fun t e=>?_;exact⟨_,t,e⟩
  ·exact ih v hv
theorem zyc {k:List Int} {a:Addr} {Q:Bool->Shared->Prop} (hk:IsTK prog w s.heap k a) (h:Q true s):wpAny (model prog w) A (hashByValue 8 (.ref a)) Q E s:=by
 have hT:=hk.typeIs;refine xt hk fun o items n ho hc hd hi=>?_;clear hk
 unfold hashByValue;refine Zc (Qy hT F.slot_tuple_hash.lookup ?_);show wpAny _ _ (do for x in (<- seqItems? (.ref a)).getD #[.ellipsis] do {if !(<- hashByValue 7 x) then return false};return true) Q E s;refine Zc (U6 ho hd ?_);refine Zc ?_;show wpAny _ _ (forIn items _ _) _ _ s;rw [<- Kz];refine V0 _ (fun rest r s'=>r.1=none/\s'=s/\∀ v∈rest,∃ i t,v=Value.int i t) _ ?_ ?_ _ _ ⟨rfl,rfl,items_int hi⟩
 ·rintro v rest r s' ⟨hr,e,q⟩
  subst e;refine xl (q v (.head _)) fun i t e=>?_;subst e;unfold hashByValue;exact Zc (Zi (Zi ⟨rfl,rfl,fun u hu=>q u (.tail _ hu)⟩))
 ·rintro⟨r1,r2⟩ s' ⟨hr,e,_⟩
  subst e;have hr':r1=none:=hr;subst hr';exact Zi h
theorem zog {k:List Int} {a:Addr} {Q:Bool->Shared->Prop} (hk:IsTK prog w s.heap k a) (h:Q false s):wpAny (model prog w) A (ofAClassStatement 8 (.ref a)) Q E s:=by
 have hT:=hk.typeIs;refine xt hk fun o items n ho hc hd hi=>?_;clear hk
 unfold ofAClassStatement;refine Zc (Ut hT ?_);show wpAny _ _ (do let underTuple <- (if ("tuple" : String) == "tuple" then pure true else isSubtype (.type "tuple") (.type "tuple"));_) Q E s;rw [if_pos (by decide)];refine Zc (Zi ?_);simp only [Jm,Z0,if_false];refine Zc (U6 ho hd ?_);dsimp only;refine Zc ?_;show wpAny _ _ (forIn items _ _) _ _ s;rw [<- Kz];refine V0 _ (fun rest r s'=>r.1=none/\s'=s/\∀ v∈rest,∃ i t,v=Value.int i t) _ ?_ ?_ _ _ ⟨rfl,rfl,items_int hi⟩
 ·rintro v rest r s' ⟨hr,e,q⟩
  subst e;refine xl (q v (.head _)) fun i t e=>?_;subst e;unfold ofAClassStatement;exact Zc (Zi (Zi ⟨rfl,rfl,fun u hu=>q u (.tail _ hu)⟩))
 ·rintro⟨r1,r2⟩ s' ⟨hr,e,_⟩
  subst e;have hr':r1=none:=hr;subst hr';exact Zi h
theorem ztm {k:List Int} {a:Addr} {l:List Value} {Q:Bool->Shared->Prop} (hk:IsTK prog w s.heap k a) (hl:∀ v∈l,∃ b k',v=.ref b/\IsTK prog w s.heap k' b) (h:Q false s):wpAny (model prog w) A (searchCouldBeSeen (.ref a) l) Q E s:=by
 unfold searchCouldBeSeen;refine Zc ?_;refine V0 _ (fun rest r s'=>r.1=none/\s'=s/\∀ v∈rest,∃ b k',v=Value.ref b/\IsTK prog w s.heap k' b) _ ?_ ?_ _ _ ⟨rfl,rfl,hl⟩
 ·rintro v rest r s' ⟨hr,e,q⟩
  subst e;refine xj (q v (.head _)) fun b k' e hb=>?_;subst e;have q':=fun u hu=>q u (.tail _ hu)
  dsimp only;split
  ·exact Zi ⟨rfl,rfl,q'⟩
  ·refine Zc (Bj hk ?_);simp only [Jm,Z0,if_false];refine Zc (Bj hb ?_);simp only [Jm,Z0,if_false];refine Zc (zog hk ?_);simp only [Z0,if_false];refine Zc (zog hb ?_);simp only [Z0,if_false];exact Zi ⟨rfl,rfl,q'⟩
 ·rintro⟨r1,r2⟩ s' ⟨hr,e,_⟩
  subst e;have hr':r1=none:=hr;subst hr';exact Zi h
def Stop (prog:Program) (w:World) (t:SetTable) (es:Array (Int×Value)) (h:Heap) (k:List Int) (n0:Nat) (r:SetFound):Prop:=
 ((way t.mask (B0 prog w k) n0).j∉t.place.toList/\r=.free (way t.mask (B0 prog w k) n0).j false)\/(∃ (i:Nat) (b:Addr),t.place[i]? = some (way t.mask (B0 prog w k) n0).j/\es[i]? = some (B0 prog w k,.ref b)/\IsTK prog w h k b/\r=.there none)
theorem ztz {t:SetTable} (h:okM t.mask):t.gaveWay=false:=by
 unfold SetTable.gaveWay;rcases h with h | h | h <;> rw [h] <;> rfl
theorem search {a b:Addr} {o:Obj} {es:Array (Int×Value)} {ep:Nat} {t:SetTable} {k:List Int} {n0:Nat} {r:SetFound} (ho:s.heap.get? a=some o) (hd:o.data=.set es ep t) (hf:t.fits es.size=true) (T:TOk t es)
  (hE:∀ (i:Nat) (e:Int×Value),es[i]? = some e->∃ b k,e=(B0 prog w k,Value.ref b)/\IsTK prog w s.heap k b) (hu:A.units<cLine) (hk:IsTK prog w s.heap k b) (hn0:n0<=10*(t.mask+13)) (hS:Stop prog w t es s.heap k n0 r) {Q:SetFound->Shared->Prop} (h:Q r s) :
  ∀ (fuel n:Nat) (st:Option SetTable.Probe),n<=n0->n0-n<fuel->st.getD (t.probeStart (B0 prog w k))=way t.mask (B0 prog w k) n ->
   (∀ m,n<=m->m<n0->∃ (i:Nat) (b:Addr) (k':List Int),t.place[i]? = some (way t.mask (B0 prog w k) m).j/\es[i]? = some (B0 prog w k',.ref b)/\IsTK prog w s.heap k' b/\k'≠k) ->
   wpAny (model prog w) A (setSearchFrom a (.ref b) (B0 prog w k) true fuel st) Q E s
 | 0,n,st,h1,h2,_,_=>by omega
 | fuel+1,n,st,h1,h2,h3,h4=>by
  unfold setSearchFrom;refine Zc (Q2 ho hd hf ?_);dsimp only;rw [ztz T.mask];simp only [Z0,if_false];rw [h3];have pg:=zrd (t:=t) (hashAt:=fun i=>(es[i]?.map (·.1)).getD 0) (h:=B0 prog w k) (n0:=n0) T.dum T.ris (by
   rcases hS with⟨q,_⟩ | ⟨i,b,q1,q2,q3,_⟩
   ·exact .inl q
   ·exact .inr ⟨i,q1,by rw [q2];rfl⟩) (10*SetTable.turns t.mask) n h1 (by unfold SetTable.turns;omega) (fun m a b=>by
    refine xn (h4 m a b) fun i _ _ e _=>?_;exact⟨i,e⟩)
  generalize hg:SetTable.probe t _ (B0 prog w k) (way t.mask (B0 prog w k) n)=g;have hg':SetTable.probe.go t (fun i=>(es[i]?.map (·.1)).getD 0) (B0 prog w k) (10*SetTable.turns t.mask) (way t.mask (B0 prog w k) n)=g:=hg;rw [hg'] at pg;rcases pg with⟨m,i,m1,m2,m3,m4,m5⟩ | ⟨m1,m2⟩
  ·rw [m5];dsimp only;have hi:i<es.size:=by rw [<- T.size];exact (Y3.mp m3).1
   have ei:es[i]? = some es[i]:=Zr hi;refine xj (hE i _ ei) fun c k' ec hc=>?_;have seen:∀ {Q':Bool->Shared->Prop},Q' false s->wpAny (model prog w) A (searchCouldBeSeen (.ref b) ((es.filter (·.1 == B0 prog w k)).toList.map (·.2))) Q' E s:=fun hq=>ztm hk (fun v hv=>by
    refine xa (Z1.mp hv) fun e he q=>?_;rw [Array.toList_filter] at he;have he:=(Vn.mp he).1;refine xb (Yg he) fun j hj=>?_;refine xj (hE j e (by rw [<- Zy];exact hj)) fun b' k2 e2 hb'=>?_;subst e2;exact⟨b',k2,q.symm,hb'⟩) hq
   have tail:wpAny (model prog w) A (do
     let some (_,y):=es[i]? | unsupported "internal:set-entry"
     let equal <- holding [y] (eqBool y (.ref b))
     let (es',_,t') <- setState a
     if true && equal then return .there none
     let some same:=t'.sameMemory t.moves t.mask | unsupported "set.changed-during-lookup:is-the-new-block-at-the-old-address"
     let still <- match (if same then t'.slot (way t.mask (B0 prog w k) m).j else .empty) with
      | .live i'=>match es'[i']? with
       | some (_,y')=>do pure (if <- isSame y' y then some i' else none)
       | none=>pure none
      | _=>pure none
     match still with
     | none=>rule "set.search.anew"; setSearchFrom a (.ref b) (B0 prog w k) true fuel none
     | some i'=>if equal then return .there (some i') else setSearchFrom a (.ref b) (B0 prog w k) true fuel (some (way t.mask (B0 prog w k) (m+1)))) Q E s:=by
    rw [ei,ec];dsimp only;refine Zc (Yq (wpAny_eqBool_tuple hu hc hk ?_));refine Zc (Q2 ho hd hf ?_);dsimp only;by_cases hkk:k'=k
    ·rw [decide_eq_true hkk];simp only [Gb,if_true];have:r=.there none:=by
      rcases hS with⟨q,_⟩ | ⟨_,_,_,_,_,e⟩
      ·have z:m≠n0:=fun e=>q (by rw [<- e];exact Zw (by rw [Zy];exact m3))
       refine xt (h4 m m1 (by omega)) fun i2 b2 k2 g1 g2 g3 g4=>?_;have e1:=zbs T.ris m3;rw [zbs T.ris g1] at e1;cases e1;rw [ei,ec] at g2;have e5:Value.ref c=Value.ref b2:=congrArg Prod.snd (Ye g2);cases e5;exact absurd ((Vb g3 hc).trans hkk) g4
      ·exact e
     rw [this] at h;exact Zi h
    ·rw [decide_eq_false hkk];simp only [Bool.and_false,Z0,if_false];have sm:t.sameMemory t.moves t.mask=some true:=by unfold SetTable.sameMemory;simp
     rw [sm];dsimp only;rw [if_pos rfl,zbs T.ris m3];dsimp only;rw [ei,ec];dsimp only;refine Zc (wpAny_isSame_ref_self (Zc (Zi ?_)));simp only [if_true];have hm:m≠n0:=fun e=>by
      subst e;rcases hS with⟨q,_⟩ | ⟨i2,b2,q1,q2,q3,_⟩
      ·exact q (Zw (by rw [Zy];exact m3))
      ·have e1:=zbs T.ris m3;rw [zbs T.ris q1] at e1;cases e1;rw [ei,ec] at q2;have e5:Value.ref c=Value.ref b2:=congrArg Prod.snd (Ye q2);cases e5;exact hkk (Vb hc q3)
     exact search ho hd hf T hE hu hk hn0 hS h fuel (m+1) _ (by omega) (by omega) rfl fun m' a b=>h4 m' (by omega) b
   cases hled:t.led with
   | true=>
    simp only [Jm,Z0,if_false];exact tail
   | false=>
    simp only [Us,if_true];refine Zc (seen ?_);simp only [Z0,if_false];exact tail
  ·rw [m2];dsimp only;have:r=.free (way t.mask (B0 prog w k) n0).j false:=by
    rcases hS with⟨_,e⟩ | ⟨_,_,q,_⟩
    ·exact e
    ·exact absurd (Zw (by rw [Zy];exact q)) m1
   rw [this] at h;exact Zi h
end
end DL
namespace DL
open PySem
section
variable {prog:Program} {w:World} {A:Around} {E:Value->Shared->Prop} {s:Shared}
def SetP (prog:Program) (w:World) (h:Heap) (a:Addr) (led:Bool) (σ:List (List Int×Addr)):Prop:=
 ∃ o es ep t,h.get? a=some o/\o.ExactSet/\o.data=.set es ep t/\TOk t es/\t.plain=true/\t.led=led/\t.place.size*5<t.mask*3/\es.toList.Perm (σ.map (ent prog w))/\(σ.map (·.1)).Nodup/\∀ x∈σ,IsTK prog w h x.1 x.2
def addK (σ:List (List Int×Addr)) (k:List Int) (b:Addr):List (List Int×Addr):=if k∈σ.map (·.1) then σ else σ++[(k,b)]
theorem zvk {h h':Heap} {k:List Int} {a b:Addr} {o:Obj} {es ep t} (x:IsTK prog w h k b) (ho:h.get? a=some o) (hd:o.data=.set es ep t) (hs:Heap.SameBut a h h'):IsTK prog w h' k b:=by
 refine xt x fun o' items n ho' hc hd' hi=>?_;clear x
 have hne:b≠a:=fun e=>by
  subst e;rw [ho] at ho';cases ho';rw [hd] at hd';cases hd'
 exact⟨o',items,n,(hs.2 b hne).trans ho',hc,hd',hi⟩
theorem zmu {h:Heap} {a:Addr} {o:Obj} {es es':Array (Int×Value)} {ep:Nat} {t t':SetTable} (ho:h.get? a=some o) (hd:o.data=.set es ep t):(h.update a (Obj.putSet es' t')).get? a=some {o with data:=.set es' (ep+1) t'}:=by
 have:=Yk (Obj.putSet es' t') ho (by rw [putSet_of es' t' hd];rfl)
 rw [putSet_of es' t' hd] at this;exact this
theorem TOk.fits {t:SetTable} {es:Array (Int×Value)} (T:TOk t es) (h:t.place.size<=t.mask):t.fits es.size=true:=by
 unfold SetTable.fits SetTable.fill;rw [T.size,T.dum];rw [T.size] at h;simpa using h
theorem SetP.lt {h:Heap} {a:Addr} {led:Bool} {σ:List (List Int×Addr)} (S:SetP prog w h a led σ):a<h.objs.size:=by
 refine xG S fun o _ _ _ ho _=>?_;clear S
 exact Zp ho
theorem SetP.at {h h':Heap} {a:Addr} {led:Bool} {σ:List (List Int×Addr)} (S:SetP prog w h a led σ) (hk:∀ b o,h.get? b=some o->(b=a\/∃ x∈σ,b=x.2)->h'.get? b=some o):SetP prog w h' a led σ:=by
 refine vg S fun o es ep t ho hx hd T pl ld fw pm nd tk=>?_;clear S
 refine⟨o,es,ep,t,hk a o ho (.inl rfl),hx,hd,T,pl,ld,fw,pm,nd,fun x hx=>?_⟩
 refine xn (tk x hx) fun o' items n ho' r=>?_;exact⟨o',items,n,hk _ _ ho' (.inr ⟨x,hx,rfl⟩),r⟩
theorem ycc {a:Addr} {o:Obj} {es:Array (Int×Value)} {ep:Nat} {t:SetTable} {m wanted:Nat} {Q:Unit->Shared->Prop} (ho:s.heap.get? a=some o) (hd:o.data=.set es ep t) (hf:t.fits es.size=true) (hm:okM m) (hw:SetTable.sizeAbove wanted=m+1) (hl:es.size<=m)
  (h:∀ es' t',TOk t' es'->t'.mask=m->t'.led=t.led->t'.plain=t.plain->es'.toList.Perm es.toList->Q () {s with heap:=s.heap.update a (Obj.putSet es' t')}):wpAny (model prog w) A (setRelay a wanted) Q E s:=by
 unfold setRelay;refine Zc (Q2 ho hd hf ?_);dsimp only;rw [hw];have hsz:¬ m+1 > sizeLine:=by
  rw [Qp];rcases hm with e | e | e <;> rw [e] <;> decide
 rw [if_neg hsz];unfold SetTable.relaid;rw [hw,Wy];refine xB (yjr (finger:=t.finger) (moves:=t.movedTo m) (led:=t.led) (plain:=t.plain) hm hl) fun t' order e1 e2 e3 e4 e5 e6=>?_;rw [e1];have hsame:(order.filterMap (es[·]?)).size=es.size:=by
  have:=e5.length_eq
  rw [Z6,Z6] at this;exact this
 refine Zc (K7 (Q:=fun r s'=>r=(order.filterMap (es[·]?),t')/\s'=s) ?_ (fun r s' hr=>?_) fun _ _ e=>e)
 ·show wpAny _ A (if ((order.filterMap (es[·]?)).size != es.size)=true then (unsupported "internal:set-table-lost-an-element" >>= fun _=>pure (order.filterMap (es[·]?),t')) else pure (order.filterMap (es[·]?),t')) _ _ _;rw [if_neg (by rw [hsame];simp)];exact Zi ⟨rfl,rfl⟩
 ·refine xg hr fun r1 r2=>?_;clear hr
  subst r1;subst r2;refine wpAny_storeSet_of ho hd (h _ _ e6 e2 e3 e4 e5) ?_;rw [hsame,Qp];have:m<=127:=by rcases hm with e | e | e <;> omega
  omega
theorem add_ok {a b:Addr} {k:List Int} {led:Bool} {σ:List (List Int×Addr)} {Q:Bool->Shared->Prop} (hS:SetP prog w s.heap a led σ) (hk:IsTK prog w s.heap k b) (hu:A.units<cLine) (hlen:σ.length<=70)
  (h:∀ r h',Heap.SameBut a s.heap h'->SetP prog w h' a led (addK σ k b)->Q r {s with heap:=h'}):wpAny (model prog w) A (setAddHashed a (.ref b) (B0 prog w k)) Q E s:=by
 refine vg hS fun o es ep t ho hx hd T pl ld fw pm nd tk=>?_;clear hS
 have hfit:=T.fits (by omega);have hel:es.size=σ.length:=by
  have:=pm.length_eq
  rw [Z6,Zd] at this;exact this
 have hE:∀ (i:Nat) (e:Int×Value),es[i]? = some e->∃ b k,e=(B0 prog w k,Value.ref b)/\IsTK prog w s.heap k b/\(k,b)∈σ:=fun i e q=>by
  have:=pm.mem_iff.mp (Zw (by rw [Zy];exact q))
  refine xa (Z1.mp this) fun x hx e2=>?_;exact⟨x.2,x.1,e2.symm,tk x hx,hx⟩
 let P:Nat->Prop:=fun n=>(way t.mask (B0 prog w k) n).j∉t.place.toList\/∃ (i:Nat) (b:Addr),t.place[i]? = some (way t.mask (B0 prog w k) n).j/\es[i]? = some (B0 prog w k,.ref b)/\IsTK prog w s.heap k b
 refine xa (room (l:=t.place.toList) (m:=t.mask) (by rw [Z6];omega)) fun j0 hj0 hjn=>?_;refine xa (ygv T.mask (B0 prog w k) hj0) fun n1 hn1 en1=>?_;refine xh (least (P:=P) (n:=n1) (.inl (by rw [en1];exact hjn))) fun n0 l1 l2 l3=>?_;have live:∀ m,m<n0->∃ (i:Nat) (b:Addr) (k':List Int),t.place[i]? = some (way t.mask (B0 prog w k) m).j/\es[i]? = some (B0 prog w k',.ref b)/\IsTK prog w s.heap k' b/\k'≠k:=fun m hm=>by
  have np:=l3 m hm;have hin:(way t.mask (B0 prog w k) m).j∈t.place.toList:=Yf fun q=>np (.inl q)
  refine xb (Yg hin) fun i hi=>?_;rw [Zy] at hi;have hlt:i<es.size:=by rw [<- T.size];exact (Y3.mp hi).1
  refine xc (hE i _ (Zr hlt)) fun b' k' e1 e2 _=>?_;have e3:es[i]? = some (B0 prog w k',Value.ref b'):=by rw [Zr hlt,e1]
  exact⟨i,b',k',hi,e3,e2,fun q=>np (.inr ⟨i,b',hi,by rw [e3,q],by rw [<- q];exact e2⟩)⟩
 have go:∀ r,Stop prog w t es s.heap k n0 r->∀ {Q':SetFound->Shared->Prop},Q' r s->wpAny (model prog w) A (setSearch a (.ref b) (B0 prog w k) true) Q' E s:=fun r hr Q' hq=>by
  unfold setSearch;have hm127:t.mask<=127:=by rcases T.mask with e | e | e <;> omega
  exact search ho hd hfit T (fun i e q=>by
   refine xc (hE i e q) fun b k e1 e2 _=>?_;exact⟨b,k,e1,e2⟩) hu hk (by omega) hr hq 100000 0 none (Yc _) (by omega) rfl fun m _ hm=>live m hm
 unfold setAddHashed;refine Yq ?_;unfold setAddHashedIn;refine Zc (Q2 ho hd hfit ?_);dsimp only;rw [if_neg (by simp [byScan,Value.scannable])];by_cases hin:k∈σ.map (·.1)
 ·-- it is there
  have hp:∃ (i:Nat) (b:Addr),t.place[i]? = some (way t.mask (B0 prog w k) n0).j/\es[i]? = some (B0 prog w k,.ref b)/\IsTK prog w s.heap k b:=by
   rcases l2 with q | q
   ·refine xa (Z1.mp hin) fun x hx1 hx2=>?_;have hmem:ent prog w x∈es.toList:=pm.mem_iff.mpr (Z1.mpr ⟨x,hx1,rfl⟩);refine xb (Yg hmem) fun i hi=>?_;rw [Zy] at hi;have hi2:es[i]? = some (B0 prog w k,Value.ref x.2):=by rw [hi];unfold ent;rw [hx2]
    refine xh (T.wy i _ _ hi2) fun n2 w1 w2 w3=>?_;have hle:n0<=n2:=Yf fun z=>l3 n2 (by omega) (.inr ⟨i,x.2,w2,hi2,by rw [<- hx2];exact tk x hx1⟩)
    rcases Yw n0 n2 with z | z
    ·exact absurd (w3 n0 z) q
    ·have:n0=n2:=by omega
     subst this;exact absurd (Zw (by rw [Zy];exact w2)) q
   ·exact q
  refine xc hp fun i b' p1 p2 p3=>?_;clear hp
  refine Zc (go (.there none) (.inr ⟨i,b',p1,p2,p3,rfl⟩) ?_);dsimp only;have e:s={s with heap:=s.heap}:=rfl;rw [e];refine Zi (h _ _ (Heap.SameBut.refl a s.heap) ?_);unfold addK;rw [if_pos hin];exact⟨o,es,ep,t,ho,hx,hd,T,pl,ld,fw,pm,nd,tk⟩
 ·-- it is new
  have hp:(way t.mask (B0 prog w k) n0).j∉t.place.toList:=by
   rcases l2 with q | ⟨i,b',q1,q2,q3⟩
   ·exact q
   ·refine xc (hE i _ q2) fun b2 k2 e1 e2 e3=>?_;have e5:Value.ref b'=Value.ref b2:=congrArg Prod.snd e1;cases e5;rw [Vb q3 e2] at hin;exact absurd (Z1.mpr ⟨_,e3,rfl⟩) hin
  refine Zc (go (.free (way t.mask (B0 prog w k) n0).j false) (.inl ⟨hp,rfl⟩) ?_);dsimp only;refine Zc (Q2 ho hd hfit ?_);dsimp only;rw [put_eq T.dum];dsimp only;rw [if_pos pl];refine Zc (zyc hk ?_);simp only [if_true];have T1:=T.put (x:=Value.ref b) (n:=n0) (h:=B0 prog w k) (by omega) hp fun n' hn'=>by
   refine xn (live n' hn') fun i _ _ e _=>?_;exact Zw (by rw [Zy];exact e)
  have pm1:(SetTable.insertAt es (SetTable.below t.place (way t.mask (B0 prog w k) n0).j) (B0 prog w k,Value.ref b)).toList.Perm ((σ++[(k,b)]).map (ent prog w)):=by
   refine (Ql _ _ _).trans ?_;rw [Kh,Ys];exact pm.append_right _
  have nd1:((σ++[(k,b)]).map (·.1)).Nodup:=by
   rw [Ys,U9];refine⟨nd,by simp,fun x hx y hy=>?_⟩
   have:y=k:=by simpa using hy
   rw [this];exact fun e=>hin (by rw [<- e];exact hx)
  have ak:addK σ k b=σ++[(k,b)]:=if_neg hin;have sz1:(SetTable.insertAt es (SetTable.below t.place (way t.mask (B0 prog w k) n0).j) (B0 prog w k,Value.ref b)).size=σ.length+1:=by
   have:=pm1.length_eq
   rw [Z6,Zd,Zs] at this;exact this
  have hpl:t.place.size=σ.length:=T.size.trans hel;refine Zc (wpAny_storeSet_of ho hd ?_ (by rw [sz1,Qp];omega));have sb1:=Wz s.heap a (Obj.putSet (SetTable.insertAt es (SetTable.below t.place (way t.mask (B0 prog w k) n0).j) (B0 prog w k,Value.ref b)) {t with place:=SetTable.insertAt t.place (SetTable.below t.place (way t.mask (B0 prog w k) n0).j) (way t.mask (B0 prog w k) n0).j});have tk1:∀ {h':Heap},Heap.SameBut a s.heap h'->∀ x∈σ++[(k,b)],IsTK prog w h' x.1 x.2:=fun {h'} sb x hx=>by
   rcases Y6.mp hx with hx | hx
   ·exact zvk (tk x hx) ho hd sb
   ·rw [Zu.mp hx];exact zvk hk ho hd sb
  have g1:=zmu (es':=SetTable.insertAt es (SetTable.below t.place (way t.mask (B0 prog w k) n0).j) (B0 prog w k,Value.ref b)) (t':={t with place:=SetTable.insertAt t.place (SetTable.below t.place (way t.mask (B0 prog w k) n0).j) (way t.mask (B0 prog w k) n0).j}) ho hd;have ps1:(SetTable.insertAt t.place (SetTable.below t.place (way t.mask (B0 prog w k) n0).j) (way t.mask (B0 prog w k) n0).j).size=σ.length+1:=T1.size.trans sz1;have few1:∀ (full:Bool),SetTable.tooFull {t with place:=SetTable.insertAt t.place (SetTable.below t.place (way t.mask (B0 prog w k) n0).j) (way t.mask (B0 prog w k) n0).j}=full->full=decide ((σ.length+1)*5 >= t.mask*3):=fun full e=>by
   rw [<- e];unfold SetTable.tooFull SetTable.fill;dsimp only;rw [ps1,T.dum];rfl
  simp only [Us,V9];rw [few1 _ rfl];by_cases hfull:(σ.length+1)*5 >= t.mask*3
  ·rw [decide_eq_true hfull];simp only [if_true];obtain⟨m',hm',hw',hl',hf'⟩:∃ m',okM m'/\SetTable.sizeAbove (SetTable.grown (es.size+1))=m'+1/\σ.length+1<=m'/\(σ.length+1)*5<m'*3:=by
    rcases T.mask with e | e | e
    ·have:σ.length=4:=by omega
     rw [hel,this];exact⟨31,.inr (.inl rfl),by decide +kernel,by decide,by decide⟩
    ·have:σ.length=18:=by omega
     rw [hel,this];exact⟨127,.inr (.inr rfl),by decide +kernel,by decide,by decide⟩
    ·omega
   refine Zc (ycc g1 rfl (T1.fits ?_) hm' hw' (by rw [sz1];exact hl') fun es' t' T' tm tl tp pe=>?_)
   ·show (SetTable.insertAt t.place (SetTable.below t.place (way t.mask (B0 prog w k) n0).j) (way t.mask (B0 prog w k) n0).j).size<=t.mask;rw [ps1];rcases T.mask with e | e | e <;> omega
   ·have sb2:=sb1.trans (Wz _ a (Obj.putSet es' t'));refine Zi (h _ _ sb2 ?_);rw [ak];refine⟨_,es',ep+1+1,t',zmu g1 rfl,hx,rfl,T',tp.trans pl,tl.trans ld,?_,pe.trans pm1,nd1,tk1 sb2⟩
    have:=pe.length_eq
    rw [Z6,Z6,sz1] at this;rw [T'.size,this,tm];exact hf'
  ·rw [decide_eq_false hfull];simp only [Z0,if_false];refine Zi (h _ _ sb1 ?_);rw [ak];refine⟨_,_,ep+1,_,g1,hx,rfl,T1,pl,ld,?_,pm1,nd1,tk1 sb1⟩
   show (SetTable.insertAt t.place (SetTable.below t.place (way t.mask (B0 prog w k) n0).j) (way t.mask (B0 prog w k) n0).j).size*5<t.mask*3;rw [ps1];omega
end
end DL
namespace DL
open PySem
def zcl (xs:List (List Int×Addr)):List (List Int×Addr):=xs.foldl (fun σ x=>addK σ x.1 x.2) []
theorem zpt (xs:List (List Int×Addr)) (x:List Int×Addr):zcl (xs++[x])=addK (zcl xs) x.1 x.2:=by
 unfold zcl;rw [List.foldl_append];rfl
theorem yex (σ:List (List Int×Addr)) (k:List Int) (b:Addr):(addK σ k b).length<=σ.length+1:=by
 unfold addK;split
 ·omega
 ·rw [Zs];exact Zg _
theorem yew {σ:List (List Int×Addr)} {k:List Int} {b:Addr} {x:List Int×Addr} (h:x∈addK σ k b):x∈σ\/x=(k,b):=by
 unfold addK at h;split at h
 ·exact .inl h
 ·rcases Y6.mp h with h | h
  ·exact .inl h
  ·exact .inr (Zu.mp h)
theorem zsf:∀ (xs σ:List (List Int×Addr)),(xs.foldl (fun σ x=>addK σ x.1 x.2) σ).length<=σ.length+xs.length
 | [],σ=>Zg _
 | x::xs,σ=>by
  have h1:=zsf xs (addK σ x.1 x.2);have h2:=yex σ x.1 x.2;rw [Vq,Zk];omega
theorem zkf (xs:List (List Int×Addr)):(zcl xs).length<=xs.length:=by
 have:=zsf xs []
 rw [Ym,Y8] at this;exact this
theorem zse:∀ {xs σ:List (List Int×Addr)} {x},x∈xs.foldl (fun σ x=>addK σ x.1 x.2) σ->x∈σ\/x∈xs
 | [],_,_,h=>.inl h
 | y::xs,σ,x,h=>by
  rcases zse (xs:=xs) h with h | h
  ·rcases yew h with h | h
   ·exact .inl h
   ·exact .inr (by rw [h];exact .head _)
  ·exact .inr (.tail _ h)
theorem zee {xs:List (List Int×Addr)} {x} (h:x∈zcl xs):x∈xs:=by
 rcases zse h with h | h
 ·cases h
 ·exact h
section
variable {prog:Program} {w:World} {A:Around} {E:Value->Shared->Prop} {s:Shared}
abbrev zcd (led:Bool):Obj:={cls:=.type "set", dict:=none,data:=.set #[] 0 (.fresh 0 0 led)}
theorem SetP.fresh {h:Heap} {a:Addr} {led:Bool} (ho:h.get? a=some (zcd led)):SetP prog w h a led []:=
 ⟨_,_,_,_,ho,⟨rfl,rfl,rfl⟩,rfl,TOk.fresh 0 0 led,rfl,rfl,by show 0*5<7*3;decide,Kd _,Up,fun x hx=>by cases hx⟩
theorem zoc {R:Result->Shared->Prop} {S I l:Addr} {led:Bool} {xs:List (List Int×Addr)} {items:Array Value} (hh:A.in1.handled=none) (hlI:l≠I) (hSI:S≠I) (hSl:S≠l) (hit:items.toList=xs.map fun x=>Value.ref x.2) (hxI:∀ x∈xs,x.2≠I) (hxS:∀ x∈xs,x.2≠S)
  (hu:A.in1.units<cLine) (hn:xs.length<=70):∀ (left done:List (List Int×Addr)) (s:Shared),xs=done++left->s.heap.IsListIter I l done.length->s.heap.IsList l items->(∀ x∈xs,IsTK prog w s.heap x.1 x.2)->SetP prog w s.heap S led (zcl done) ->
   (∀ h' tk,(∀ b o,b≠S->b≠I->s.heap.get? b=some o->h'.get? b=some o)->SetP prog w h' S led (zcl xs)->R (.ok (.ret .none)) {s with heap:=h',toks:=tk}) ->
   codeAny (model prog w) A (.builtin "set.update.loop" ⟨[.ref S,.ref I],[]⟩) R s
 | [],done,s,hx,h1,h2,h3,h4,hR=>by
  rw [W5] at hx;subst hx;refine W7 Jg ?_;rw [Wn Qo _];have hsz:items.size=xs.length:=by rw [<- Z6,hit,Zd]
  have W:=Walks.list (prog:=prog) (w:=w) hh I l hlI items;show wpAny _ A.in1 (pyNext (.ref I) >>= _) _ _ s;refine Zc (W.done s _ _ ⟨by rw [hsz];exact h1,h2⟩ fun h' tk kp=>?_);have kp':∀ b o,b≠I->s.heap.get? b=some o->h'.get? b=some o:=fun b o hb e=>kp b o (by simpa using hb) e
  refine Zi (hR h' tk (fun b o _ hb e=>kp' b o hb e) (h4.at fun b o e hb=>kp' b o ?_ e));rcases hb with e | ⟨x,hx,e⟩
  ·rw [e];exact hSI
  ·rw [e];exact hxI x (zee hx)
 | x::left,done,s,hx,h1,h2,h3,h4,hR=>by
  refine W7 Jg ?_;rw [Wn Qo _];have hsz:items.size=xs.length:=by rw [<- Z6,hit,Zd]
  have W:=Walks.list (prog:=prog) (w:=w) hh I l hlI items;have hlt:done.length<items.size:=by rw [hsz,hx,Zs,Zk];omega
  show wpAny _ A.in1 (pyNext (.ref I) >>= _) _ _ s;refine Zc (W.item done.length s _ _ hlt ⟨h1,h2⟩ fun v h' tk hv st' kp=>?_);have ev:v=.ref x.2:=by
   rw [<- Zy,hit,hx,Ys,Zx (by rw [Zd];exact Zg _),Zd,Qu] at hv;exact (Ye hv).symm
  subst ev;have hxm:x∈xs:=by rw [hx];exact Yj _ (.head _)
  have kp':∀ b o,b≠I->s.heap.get? b=some o->h'.get? b=some o:=fun b o hb e=>kp b o (by simpa using hb) e
  have tk':∀ y∈xs,IsTK prog w h' y.1 y.2:=fun y hy=>by
   refine xn (h3 y hy) fun o' its n ho' r=>?_;exact⟨o',its,n,kp' _ _ (hxI y hy) ho',r⟩
  have S':SetP prog w h' S led (zcl done):=h4.at fun b o e hb=>kp' b o (by
   rcases hb with e | ⟨y,hy,e⟩
   ·rw [e];exact hSI
   ·rw [e];exact hxI y (by rw [hx];exact W1 _ (zee hy))) e
  show wpAny _ A.in1 (holding [Value.ref x.2] (setAdd S (.ref x.2)) >>= _) _ _ _;refine Zc (Yq ?_);unfold setAdd;refine Yq (Zc (wpAny_pyHash_tuple hu (tk' x hxm) ?_));have hl70:(zcl done).length<=70:=by
   have:=zkf done
   rw [hx,Zs] at hn;omega
  refine add_ok (s:={s with heap:=h',toks:=tk+(x.1.length+1)}) S' (tk' x hxm) hu hl70 fun r h2' sb S2=>?_;have hS2:SetP prog w h2' S led (zcl (done++[x])):=by rw [zpt];exact S2
  refine Zi ⟨Q4 Qo _,zoc hh hlI hSI hSl hit hxI hxS hu hn left (done++[x]) _ (by rw [hx];simp) ?_ ?_ ?_ hS2 fun h3' tk3 kp3 S3=>?_⟩
  ·rw [Zs];exact st'.1.at fun o e=>by
    rw [sb.2 I (Wk hSI)];exact e
  ·exact st'.2.at fun o e=>by
    rw [sb.2 l (Wk hSl)];exact e
  ·intro y hy;refine xn (tk' y hy) fun o' its n ho' r=>?_;exact⟨o',its,n,by rw [sb.2 _ (hxS y hy)];exact ho',r⟩
  ·exact hR h3' tk3 (fun b o hb1 hb2 e=>kp3 b o hb1 hb2 (by rw [sb.2 b hb1];exact kp' b o hb2 e)) S3
theorem zvw (v:Value) {Z:Value->Shared->Prop} (h:Z (.ref s.heap.objs.size) {s with heap:=s.heap.push (zcd (!w.params.followText "set-order"))}) :
  codeAny (model prog w) A (.call (.builtin "set.__new__") ⟨[.type "set", v],[]⟩) (wants Z E) s:=by
 refine codeAny_of_tree ?_;show wpAny _ A.in1 (checkBuiltinCall "set.__new__" ⟨[.type "set", v],[]⟩ >>= fun _=>again (.builtin "set.__new__" ⟨[.type "set", v],[]⟩)) _ _ s;rw [F.newCall_set_1 v];refine Zc (Zi (Zi ⟨Q4 F.plain_set_new _,W7 F.entry_set_new ?_⟩));rw [Wn F.plain_set_new _];have hs:=sub_set_self;unfold Builtin.«set.__new__» Builtin.Frozenset.newClass;cases s;dsimp only;wp_walk
 refine Kx (Zi ?_);simp only [newObj];exact Zc (wpAny_alloc (Zi (Zi h)))
end
end DL
namespace DL
open PySem
section
variable {prog:Program} {w:World} {A:Around} {E:Value->Shared->Prop} {s:Shared}
abbrev zgd (w:World):Bool:=!w.params.followText "set-order"
theorem zyy {l:Addr} {items:Array Value} {xs:List (List Int×Addr)} {Q:Value->Shared->Prop} (hh:A.handled=none) (hu:A.units+16<cLine) (hl:s.heap.IsList l items) (hit:items.toList=xs.map fun x=>Value.ref x.2) (htk:∀ x∈xs,IsTK prog w s.heap x.1 x.2) (hn:xs.length<=70)
  (h:∀ h' tk,SetP prog w h' s.heap.objs.size (zgd w) (zcl xs)->(∀ b o,s.heap.get? b=some o->h'.get? b=some o)->Q (.ref s.heap.objs.size) {s with heap:=h',toks:=tk}):wpAny (model prog w) A (call (.type "set") [.ref l]) Q E s:=by
 refine xl Ke.mro fun mc ml mro=>?_;have q1:=Ke.made;have q2:=Ke.sub;have q3:=Ke.notType;have q4:=Ke.canCreate;have q5:=F.typeCall_set_1 (.ref l);refine wpAny_call (codeAny_of_tree ?_);show wpAny _ _ (callAny (.type "set") _) _ _ _;refine Zi ⟨Code.quiet_builtin _ (by decide +kernel),W7 F.entry_type_call ?_⟩;rw [Around.under_plain (weight_type_call_type "set" [.ref l] []) rfl];repeat (any_goals (first | assumption | wp_step))
 refine Uu (zvw (.ref l) (E:=E) (Z:=fun v s1=>v=.ref s.heap.objs.size/\s1={s with heap:=s.heap.push (zcd (zgd w))}) ⟨rfl,rfl⟩) fun r s1 hr=>?_;cases r with
 | error e=>exact hr
 | ok f=>
  cases f with
  | ret v=>
   refine xg hr fun qz0 qz1=>?_;clear hr;subst qz0;subst qz1
   have gS:(s.heap.push (zcd (zgd w))).get? s.heap.objs.size=some (zcd (zgd w)):=Z8 _ rfl;have tS:Shared.TypeIs {s with heap:=s.heap.push (zcd (zgd w))} (.ref s.heap.objs.size) "set" := ⟨_,gS,rfl⟩;have q6:=Ke.init.lookup;have q7:=Ke.init.bind (.ref s.heap.objs.size);repeat (any_goals (first | assumption | wp_step))
   refine Uu (codeAny_call_builtin (R:=wants (fun r s2=>r=.none/\∃ h' tk,s2={s with heap:=h',toks:=tk}/\SetP prog w h' s.heap.objs.size (zgd w) (zcl xs)/\∀ b o,s.heap.get? b=some o->h'.get? b=some o) E) Ke.init.plain F.entry_set_init (check_set_init_1 tS ?_)) fun r2 s2 hr2=>?_
   ·refine xH hl fun ol hol hcl nl hdl=>?_;clear hl
    obtain⟨oc,od,odt,os⟩:=ol
    dsimp only at hcl hdl;subst hcl;subst hdl;have hlS:l<s.heap.objs.size:=Zp hol;have gl:(s.heap.push (zcd (zgd w))).get? l=some {cls:=.type "list", dict:=od,data:=.seq items nl,slots:=os}:=Zh _ hol;have l1:(s.heap.push (zcd (zgd w))).IsList l items:=⟨_,gl,rfl,nl,rfl⟩;have z1:=F.sub_list_set;have z2:=F.sub_list_frozenset;have z3:(Value.type "list" == Value.type "dict")=false:=by decide
    unfold Builtin.«set.__init__» noKeywords Builtin.Frozenset.updateFrom;generalize hPI:pyIter=PI;wp_walk
    subst hPI;refine Vs l1 (Zc (wpAny_runValue ?_));have hsz:(s.heap.push (zcd (zgd w))).objs.size=s.heap.objs.size+1:=Je ..;have htlt:∀ x∈xs,x.2<s.heap.objs.size:=fun x hx=>by
     refine xn (htk x hx) fun o' _ _ ho' _=>?_;exact Zp ho'
    refine zoc (led:=zgd w) (l:=l) (items:=items) (xs:=xs) (by simp [hh]) (by rw [hsz];exact Z3 (Wq hlS)) (by rw [hsz];exact Z3 (Qa _)) (Ya hlS) hit (fun x hx=>by rw [hsz];exact Z3 (Wq (htlt x hx))) (fun x hx=>Z3 (htlt x hx)) (by simp;omega) hn xs [] _ rfl ⟨_,Z8 _ rfl,rfl,rfl⟩ (l1.push _) (fun x hx=>?_) (SetP.fresh (Zh _ gS)) fun h' tk kp S'=>?_
    ·refine xn (htk x hx) fun o' its n ho' r=>?_;exact⟨o',its,n,Zh _ (Zh _ ho'),r⟩
    ·refine Zi ?_;show wpAny _ _ (ret Value.none) _ _ _;refine Zi ⟨rfl,h',tk,rfl,S',fun b o e=>?_⟩;have hb:=Zp e;exact kp b o (Z3 hb) (by rw [hsz];exact Z3 (Wq hb)) (Zh _ (Zh _ e))
   ·cases r2 with
    | error e=>exact hr2
    | ok f2=>
     cases f2 with
     | ret r=>
      refine xy hr2 fun qz0 h' tk qz3 S' kp=>?_;clear hr2;subst qz0;subst qz3
      repeat (any_goals (first | assumption | wp_step))
      exact h _ _ S' kp
     | _=>exact hr2.elim
  | _=>exact hr.elim
end
end DL
namespace DL
open PySem
theorem zke {α:Type}:∀ {l:List α} {i:Nat} (h:i<l.length),(l[i]::l.eraseIdx i).Perm l
 | [],i,h=>by cases h
 | a::l,0,h=>Kd _
 | a::l,i+1,h=>by
  have ih:=zke (l:=l) (i:=i) (by simpa using h);rw [V7];exact (List.Perm.swap _ _ _).trans (ih.cons a)
theorem zwk {α:Type} {next:Nat->Nat}:∀ (fuel k:Nat) (left:List α) (out:Array α),left.length=fuel->(pickOrder.go next fuel k left out).toList.Perm (out.toList++left)
 | 0,k,left,out,h=>by
  rw [V6.mp h,W5];exact Kd _
 | fuel+1,k,left,out,h=>by
  have hlt:next k%left.length<left.length:=Qj _ (by omega);unfold pickOrder.go;rw [Ze hlt];dsimp only;refine (zwk fuel (k+1) _ _ (by rw [List.length_eraseIdx_of_lt hlt];omega)).trans ?_;rw [Kh,Wm];exact (zke hlt).append_left _
theorem zwj {α:Type} (next:Nat->Nat) (xs:Array α):(pickOrder next xs).toList.Perm xs.toList:=by
 have:=zwk (next:=next) xs.size 0 xs.toList #[] (by simp)
 simpa [pickOrder] using this
def zei (w:World) (S:Addr) (ep:Nat) (es:Array (Int×Value)):Array (Int×Value):=if w.params.followText "set-order" = true then pickOrder (w.params.setOrder S ep) es else es
theorem zrl (w:World) (S:Addr) (ep:Nat) (es:Array (Int×Value)):(zei w S ep es).toList.Perm es.toList:=by
 unfold zei;split
 ·exact zwj _ _
 ·exact Kd _
theorem zha (w:World) (S:Addr) (ep:Nat) (es:Array (Int×Value)):(zei w S ep es).size=es.size:=by
 have:=(zrl w S ep es).length_eq
 simpa using this
def zbt (w:World) (t:SetTable) (i:Nat):Nat:=if w.params.followText "set-order" = true then 0 else if i=0 then 0 else t.place.getD (i-1) 0+1
theorem zug {w:World} {t:SetTable} {es:Array (Int×Value)} (T:TOk t es) (hw:¬ w.params.followText "set-order" = true) {i:Nat} (hi:i<=t.place.size):SetTable.below t.place (zbt w t i)=i:=by
 refine xi (zfm (j:=zbt w t i) T.ris) fun a b c=>?_;generalize hp:SetTable.below t.place (zbt w t i)=p at a b c;unfold zbt at b c;rw [if_neg hw] at b c;rcases Bq p i with q | q | q
 ·exfalso
  have e:t.place[p]? = some (t.place[p]'(by omega)):=Zr _;have h1:=c p _ (Zg _) e;rw [if_neg (by omega)] at h1;have e2:t.place[i-1]? = some (t.place[i-1]'(by omega)):=Zr _;have e3:t.place.getD (i-1) 0=t.place[i-1]'(by omega):=by simp [Array.getD,show i-1<t.place.size by omega]
  rw [e3] at h1;by_cases z:p=i-1
  ·subst z;omega
  ·have:=zni T.ris (show p<i-1 by omega) e e2
   omega
 ·exact q
 ·exfalso
  have e:t.place[i]? = some (t.place[i]'(by omega)):=Zr _;have h1:=b i _ q e;by_cases z:i=0
  ·rw [if_pos z] at h1;omega
  ·rw [if_neg z] at h1;have e2:t.place[i-1]? = some (t.place[i-1]'(by omega)):=Zr _;have e3:t.place.getD (i-1) 0=t.place[i-1]'(by omega):=by simp [Array.getD,show i-1<t.place.size by omega]
   rw [e3] at h1;have:=zni T.ris (show i-1<i by omega) e2 e
   omega
section
variable {prog:Program} {w:World} {A:Around} {E:Value->Shared->Prop} {s:Shared}
structure SetAt (w:World) (h:Heap) (S:Addr) (es:Array (Int×Value)) (ep:Nat) (t:SetTable):Prop where
 ob:∃ o,h.get? S=some o/\o.ExactSet/\o.data=.set es ep t
 ok:TOk t es
 plain:t.plain=true
 led:t.led=zgd w
 few:t.place.size*5<t.mask*3
theorem SetAt.fits {h:Heap} {S:Addr} {es:Array (Int×Value)} {ep:Nat} {t:SetTable} (X:SetAt w h S es ep t):t.fits es.size=true:=X.ok.fits (by have:=X.few;omega)
theorem SetAt.at {h h':Heap} {S:Addr} {es:Array (Int×Value)} {ep:Nat} {t:SetTable} (X:SetAt w h S es ep t) (k:∀ o,h.get? S=some o->h'.get? S=some o):SetAt w h' S es ep t:=by
 obtain⟨⟨o,ho,r⟩,b,c,d,e⟩:=X
 exact⟨⟨o,k o ho,r⟩,b,c,d,e⟩
theorem SetAt.state {S:Addr} {es:Array (Int×Value)} {ep:Nat} {t:SetTable} (X:SetAt w s.heap S es ep t) {Q:(Array (Int×Value)×Nat×SetTable)->Shared->Prop} (h:Q (es,ep,t) s):wpAny (model prog w) A (setState S) Q E s:=by
 refine xh X.ob fun o ho hx hd=>?_;exact Q2 ho hd X.fits h
def IsSetIter (h:Heap) (I S:Addr) (sl i n ep:Nat):Prop:=∃ o,h.get? I=some o/\o.cls=.type "set_iterator" /\ o.data=.fields #[.int sl 0,.int i 0,.ref S,.int n 0,.int ep 0]
theorem IsSetIter.typeIs {I S:Addr} {sl i n ep:Nat} (x:IsSetIter s.heap I S sl i n ep):s.TypeIs (.ref I) "set_iterator" := let ⟨o,ho,hc,_⟩:=x;⟨o,ho,hc⟩
theorem slot_sin:Slot "set_iterator" "__next__" "set_iterator.__next__" :=
 .of (owner := "set_iterator") (n := "__next__") (by rw [Kj,Qh];kernel_rfl) (by decide +kernel) (by decide +kernel) (by decide +kernel) (by first | exact .inl (by decide +kernel) | exact .inr (by decide +kernel)) (by rw [U7];kernel_rfl)
theorem zod:entryFor table "set_iterator.__next__" = some Builtin.«set_iterator.__next__» := entryFor_of_fast (by kernel_rfl)
theorem zsu (a:Value):argsOk "set_iterator.__next__" ⟨[a],[]⟩:=by unfold argsOk;kernel_rfl
theorem zyn:entryFor table "set.__iter__" = some Builtin.«frozenset.__iter__» := entryFor_alias (id' := "frozenset.__iter__") (by kernel_rfl) rfl (by decide +kernel) (by kernel_rfl)
theorem zjy {S:Addr} {es:Array (Int×Value)} {ep i:Nat} {t:SetTable} (X:SetAt w s.heap S es ep t) (hi:i<=es.size) {Q:Option (Value×Nat)->Shared->Prop} (h:Q (((zei w S ep es)[i]?).map fun e=>(e.2,zbt w t (i+1))) s) :
  wpAny (model prog w) A (setNext S (zbt w t i) i ep) Q E s:=by
 unfold setNext;refine Zc (X.state ?_);dsimp only;unfold setsByText;refine Zc (Zc (Kx (Zi ?_)));show wpAny _ _ (if (w.params.followText "set-order")=true then _ else _) _ _ _;by_cases hw:w.params.followText "set-order" = true
 ·rw [if_pos hw];simp only [bne_self_eq_false,Z0,if_false];unfold setWalk;refine Zc (Zc (X.state ?_));dsimp only;unfold setsByText;refine Zc (Zc (Kx (Zi ?_)));show wpAny _ _ (if (w.params.followText "set-order")=true then _ else _) _ _ _;rw [if_pos hw];refine Zc (Kx (Zi (Zi ?_)));have e1:zei w S ep es=pickOrder (w.params.setOrder S ep) es:=if_pos hw;have e2:∀ j,zbt w t j=0:=fun j=>if_pos hw
  rw [e1,e2] at h;rw [e2];exact h
 ·rw [if_neg hw];show wpAny _ _ (if (!t.plain && decide (es.size > 1))=true then _ else _) _ _ _;rw [if_neg (by rw [X.plain];simp)];have hled:t.led=true:=by rw [X.led];unfold zgd;simpa using hw
  refine Zc (m:=_) (K7 (Q:=fun _ s'=>s'=s) ?_ (fun _ s' hs'=>?_) fun _ _ e=>e)
  ·show wpAny _ _ (if (!t.led && !es.isEmpty)=true then unsupported "set:maker-not-led" else pure ()) _ _ _;rw [if_neg (by rw [hled];simp)];exact Zi rfl
  ·subst hs';rw [zug X.ok hw (by rw [X.ok.size];exact hi)];refine Zi ?_;have e1:zei w S ep es=es:=if_neg hw;rw [e1] at h;cases e:es[i]? with
   | none=>rw [e] at h;exact h
   | some x=>
    rw [e] at h;have hlt:i<es.size:=(Y3.mp e).1;have hlt2:i<t.place.size:=by rw [X.ok.size];exact hlt
    rw [Zr hlt2];have e4:zbt w t (i+1)=t.place[i]+1:=by
     unfold zbt;rw [if_neg hw,if_neg (by omega)];simp [Array.getD,hlt2]
    rw [e4] at h;exact h
theorem zwy {S I:Addr} {es:Array (Int×Value)} {ep i:Nat} {t:SetTable} {x:Value} (X:SetAt w s.heap S es ep t) (hi:IsSetIter s.heap I S (zbt w t i) i es.size ep) (hSI:S≠I) (hx:((zei w S ep es)[i]?).map (·.2)=some x) {Q:Option Value->Shared->Prop}
  (hQ:∀ h',IsSetIter h' I S (zbt w t (i+1)) (i+1) es.size ep->Heap.SameBut I s.heap h'->Q (some x) {s with heap:=h'}):wpAny (model prog w) A (pyNext (.ref I)) Q E s:=by
 have hlt:i<es.size:=by
  rw [<- zha w S ep es];refine xa (Zb.mp hx) fun e he _=>?_;exact (Y3.mp he).1
 have hT:=hi.typeIs;refine xh hi fun o ho hc hd=>?_;clear hi
 unfold pyNext;refine Zc (Vh (wpAny_callSpecial?_slot (name:=Str.ofString "__next__") hT slot_sin (Qr slot_sin hT zod ?_ (zsu _))));show wpAny _ _ (fieldsOf (.ref I) >>= _) _ _ s;refine Zc (wpAny_fieldsOf ho hd ?_);show wpAny _ _ (setEntries S >>= _) _ _ s;unfold setEntries;refine Zc (Zc (X.state (Zi ?_)));simp only [bne_self_eq_false,Z0,if_false];refine Zc (zjy (i:=i) X (Q8 hlt) ?_);refine xa (Zb.mp hx) fun e he ex=>?_;rw [he];subst ex;dsimp only [Y5];refine Zc (Gk ho hd (by simp) ?_);have g1:=Yk (Obj.mapFields (·.setIfInBounds 0 (rawInt (zbt w t (i+1))))) ho (Gn (K9 hd _));have d1:=K9 hd (·.setIfInBounds 0 (rawInt (zbt w t (i+1))));refine Zc (Gk g1 d1 (by simp) ?_);refine Zi ⟨_,rfl,Zi (hQ _ ?_ ((Wz ..).trans (Wz ..)))⟩;refine⟨_,Yk _ g1 (Gn (K9 d1 _)),(Bo ..).trans ((Bo ..).trans hc),?_⟩
 rw [K9 d1];simp [rawInt]
end
end DL
namespace DL
open PySem
section
variable {prog:Program} {w:World} {A:Around} {E:Value->Shared->Prop} {s:Shared}
theorem ycp {S I:Addr} {es:Array (Int×Value)} {ep:Nat} {t:SetTable} (hh:A.handled=none) (X:SetAt w s.heap S es ep t) (hi:IsSetIter s.heap I S (zbt w t es.size) es.size es.size ep) {Q:Option Value->Shared->Prop}
  (hQ:∀ h',Heap.ExtBut I s.heap h'->Q none {s with heap:=h'}):wpAny (model prog w) A (pyNext (.ref I)) Q E s:=by
 have hT:=hi.typeIs;refine xh hi fun o ho hc hd=>?_;clear hi
 unfold pyNext;refine Zc (Vh (wpAny_callSpecial?_slot (name:=Str.ofString "__next__") hT slot_sin (Qr slot_sin hT zod ?_ (zsu _))));show wpAny _ _ (fieldsOf (.ref I) >>= _) _ _ s;refine Zc (wpAny_fieldsOf ho hd ?_);show wpAny _ _ (setEntries S >>= _) _ _ s;unfold setEntries;refine Zc (Zc (X.state (Zi ?_)));simp only [bne_self_eq_false,Z0,if_false];refine Zc (zjy (i:=es.size) X (Zg _) ?_);have e:(zei w S ep es)[es.size]? = none:=by
  rw [<- zha w S ep es];simp
 rw [e];dsimp only [Bb];refine Zc (Gk ho hd (by simp) ?_);refine Zc ?_;simp only [newExc,newTuple];refine Zc (Q3 ?_ (by size_fits));refine Zc (m:=firstArgMember _ _) (wpAny_of_eq (a:=Value.none) (by first | rfl | (simp only [firstArgMember];rfl)) ?_);refine Q3 ?_ (by size_fits);simp only [raiseNew];refine Zc (wpAny_handled ?_);rw [show A.in1.handled=none from hh];refine Zc (Zi (wpAny_throw ?_));refine Zc (Uj (T := "StopIteration") (b:=true) ⟨_,Z8 _ rfl,rfl⟩ isSubtype_stop (Zi (hQ _ ?_)));exact ((Wz ..).extBut.push _).push _
theorem zqu:Slot "set_iterator" "__iter__" "set_iterator.__iter__" :=
 .of (owner := "set_iterator") (n := "__iter__") (by rw [Kj,Qh];kernel_rfl) (by decide +kernel) (by decide +kernel) (by decide +kernel) (by first | exact .inl (by decide +kernel) | exact .inr (by decide +kernel)) (by rw [U7];kernel_rfl)
theorem zyo:entryFor table "set_iterator.__iter__" = some Builtin.«dict_keyiterator.__iter__» := entryFor_alias (id' := "dict_keyiterator.__iter__") (by kernel_rfl) rfl (by decide +kernel) (by kernel_rfl)
theorem yeu (a:Value):argsOk "set_iterator.__iter__" ⟨[a],[]⟩:=by unfold argsOk;kernel_rfl
theorem zuq (hh:A.handled=none) {S I:Addr} {es:Array (Int×Value)} {ep:Nat} {t:SetTable} (hSI:S≠I) :
  PySem.Walks prog w A I [I,S] [I] es.size (fun i v=>((zei w S ep es)[i]?).map (·.2)=some v) (fun i h=>SetAt w h S es ep t/\IsSetIter h I S (zbt w t i) i es.size ep) where
 sub:=fun b hb=>by simp at hb;simp [hb]
 frame:=fun i h h' st hk=>by
  refine xA st fun a o ho r=>?_;clear st
  exact⟨a.at fun o e=>hk S (by simp) o e,o,hk I (by simp) o ho,r⟩
 item:=fun i s Q E hi st hQ=>by
  have hlt:i<(zei w S ep es).size:=by rw [zha];exact hi
  have hx:((zei w S ep es)[i]?).map (·.2)=some ((zei w S ep es)[i].2):=by rw [Zr hlt];rfl
  refine zwy st.1 st.2 hSI hx fun h' it' sb=>?_;exact hQ _ h' s.toks hx ⟨st.1.at fun o e=>(sb.2 S hSI).trans e,it'⟩ fun b o hb e=>(sb.2 b fun q=>hb (by simp [q])).trans e
 done:=fun s Q E st hQ=>ycp hh st.1 st.2 fun h' x=>hQ h' s.toks fun b o hb e=>x b o (fun q=>hb (by simp [q])) e
 self:=fun i s Q E st hQ=>by
  have hT:=st.2.typeIs;refine wpAny_pyIter_slot hT zqu (Qr zqu hT zyo ?_ (yeu _));show wpAny _ _ (ret (.ref I)) _ _ s;exact Zi ⟨_,rfl, "set_iterator", _,hT,slot_sin.lookup,hQ⟩
abbrev zbn (S:Addr) (n ep:Nat):Obj:={cls:=.type "set_iterator", data:=.fields #[.int 0 0,.int 0 0,.ref S,.int n 0,.int ep 0]}
theorem yde {S:Addr} {es:Array (Int×Value)} {ep:Nat} {t:SetTable} (X:SetAt w s.heap S es ep t) {Q:Value->Shared->Prop} (hQ:Q (.ref s.heap.objs.size) {s with heap:=s.heap.push (zbn S es.size ep)}):wpAny (model prog w) A (pyIter (.ref S)) Q E s:=by
 have hT:s.TypeIs (.ref S) "set" := by
  refine xh X.ob fun o ho hx _=>?_;exact⟨o,ho,hx.1⟩
 refine wpAny_pyIter_slot hT F.slot_set_iter (Qr F.slot_set_iter hT zyn ?_ (F.args_set_iter_1 _));show wpAny _ _ (Builtin.Frozenset.sizeOf S >>= _) _ _ s;unfold Builtin.Frozenset.sizeOf setEntries;refine Zc (Zc (Zc (X.state (Zi (Zi ?_)))));unfold setDrawn;refine Zc (Zc (X.state ?_));dsimp only;unfold setsByText;refine Zc (Zc (Kx (Zi ?_)));show wpAny _ _ (pure (!w.params.followText "set-order" && (!t.plain && decide (es.size > 1)))) _ _ _;refine Zi ?_;rw [show (!w.params.followText "set-order" && (!t.plain && decide (es.size > 1)))=false by rw [X.plain];simp];simp only [Z0,if_false];refine Zc (Zi ?_);unfold setEpoch;refine Zc (Zc (X.state (Zi ?_)));refine Zc (Q3 (Zi ⟨_,rfl, "set_iterator", _,⟨_,Z8 _ rfl,rfl⟩,slot_sin.lookup,hQ⟩))
theorem ycz {S:Addr} {es:Array (Int×Value)} {ep:Nat} {t:SetTable} (X:SetAt w s.heap S es ep t) {Q:Bool->Shared->Prop} (hQ:Q false s):wpAny (model prog w) A (Builtin.List.listLengthHint (.ref S)) Q E s:=by
 have hT:s.TypeIs (.ref S) "set" := by
  refine xh X.ob fun o ho hx _=>?_;exact⟨o,ho,hx.1⟩
 unfold Builtin.List.listLengthHint;refine Zc (Qy hT F.slot_set_len.lookup ?_);generalize hid:("set.__len__" : String)=id0;wp_delta
 rw [show splitId id0=some ("set", "__len__") from by subst hid;decide +kernel];subst hid;refine Zc (Uj (b:=true) hT (by rw [U7];kernel_rfl) ?_);refine Zc (Ut hT ?_);exact Zi hQ
theorem zpy {S:Addr} {es:Array (Int×Value)} {ep:Nat} {t:SetTable} {Q:List Value->Shared->Prop} (hh:A.handled=none) (X:SetAt w s.heap S es ep t)
  (hQ:∀ h' tk,s.heap.objs.size<h'.objs.size->(∀ b o,s.heap.get? b=some o->h'.get? b=some o)->Q ((zei w S ep es).toList.map (·.2)) {s with heap:=h',toks:=tk}):wpAny (model prog w) A (collect (.ref S)) Q E s:=by
 have hSlt:S<s.heap.objs.size:=by
  refine xa X.ob fun o ho _=>?_;exact Zp ho
 unfold collect;refine Zc (wpAny_runValue (W7 F.entry_proto_collect ?_));rw [Wn F.plain_proto_collect _];show wpAny _ A.in1 (newList [] >>= fun l=>again (.builtin "list.__iadd__" ⟨[l,.ref S],[]⟩)) _ _ s;refine Zc (Q3 (Zi ⟨Q4 F.plain_list_iadd _,W7 F.entry_list_iadd ?_⟩));rw [Wn F.plain_list_iadd _];have X1:SetAt w (s.heap.push {cls:=.type "list", data:=.seq ([]:List Value).toArray}) S es ep t:=X.at fun o e=>Zh _ e
 have hT:Shared.TypeIs {s with heap:=s.heap.push {cls:=.type "list", data:=.seq ([]:List Value).toArray} } (.ref S) "set" := by
  refine xh X1.ob fun o ho hx _=>?_;exact⟨o,ho,hx.1⟩
 show wpAny _ A.in1 (Builtin.List.listExtendWith (.ref s.heap.objs.size) (.ref S) (.ref s.heap.objs.size)) _ _ _;unfold Builtin.List.listExtendWith;refine Zc (Ut hT ?_);have n1:Builtin.List.listSameRef (.ref s.heap.objs.size) (.ref S)=false:=by simp [Builtin.List.listSameRef,Ya hSlt]
 rw [if_neg (by rw [n1];decide)];refine Zc (yde X1 ?_);have X2:SetAt w ((s.heap.push {cls:=.type "list", data:=.seq ([]:List Value).toArray}).push (zbn S es.size ep)) S es ep t:=X1.at fun o e=>Zh _ e
 refine Zc (Yq (ycz X2 ?_));have hsz:(s.heap.push {cls:=.type "list", data:=.seq ([]:List Value).toArray}).objs.size=s.heap.objs.size+1:=Je ..;generalize hIa:(s.heap.push {cls:=.type "list", data:=.seq ([]:List Value).toArray}).objs.size=Ia;have hIa':Ia=s.heap.objs.size+1:=hIa.symm.trans hsz;show wpAny _ A.in1 (rule "list.extend.makes-room" >>= fun _=>Builtin.List.listTouch (.ref s.heap.objs.size) >>= fun _=>again (.builtin "list.extend.loop" ⟨[.ref s.heap.objs.size,.ref Ia,.ref s.heap.objs.size],[]⟩)) _ _ _;have g0:((s.heap.push {cls:=.type "list", data:=.seq ([]:List Value).toArray}).push (zbn S es.size ep)).get? s.heap.objs.size=some {cls:=.type "list", data:=.seq ([]:List Value).toArray}:=Zh _ (Z8 _ rfl);have gI:((s.heap.push {cls:=.type "list", data:=.seq ([]:List Value).toArray}).push (zbn S es.size ep)).get? Ia=some (zbn S es.size ep):=by rw [<- hIa];exact Z8 _ rfl
 refine Zc (wpAny_rule (Zc ?_));show wpAny _ A.in1 (updateSeq s.heap.objs.size (·.push .none) >>= fun _=>updateSeq s.heap.objs.size (·.pop)) _ _ _;refine Zc (Ki g0 rfl ?_);have g1:=Yk (Obj.mapSeq (·.push Value.none)) g0 rfl;refine Ki g1 rfl ?_;have g2:=Yk (Obj.mapSeq (·.pop)) g1 rfl;generalize hH:((((s.heap.push {cls:=.type "list", data:=.seq ([]:List Value).toArray}).push (zbn S es.size ep)).update s.heap.objs.size (Obj.mapSeq (·.push Value.none))).update s.heap.objs.size (Obj.mapSeq (·.pop)))=hp;rw [hH] at g2;have oth:∀ b o,b≠s.heap.objs.size->((s.heap.push {cls:=.type "list", data:=.seq ([]:List Value).toArray}).push (zbn S es.size ep)).get? b=some o->hp.get? b=some o:=fun b o hb e=>by
  rw [<- hH];exact (Yu _ _ (Wk hb)).trans ((Yu _ _ (Wk hb)).trans e)
 have hneI:Ia≠s.heap.objs.size:=by rw [hIa'];exact Vk _
 have hneS:S≠s.heap.objs.size:=Z3 hSlt;have hSI:S≠Ia:=by rw [hIa'];exact Z3 (Wq hSlt)
 have W:=(zuq (prog:=prog) (w:=w) (A:=A.in1) (S:=S) (I:=Ia) (es:=es) (ep:=ep) (t:=t) (by simp [hh]) hSI).toS;have s0:zbt w t 0=0:=by unfold zbt;split <;> rfl
 have hsz63:es.size<=sizeLine:=by
  have h1:=X.few;have h2:=X.ok.size;have h3:t.mask<=127:=by rcases X.ok.mask with e | e | e <;> omega
  rw [Qp];omega
 refine Zi ⟨Q4 Wu _,codeAny_extend_loopS W hsz63 s.heap.objs.size (by simp [Wk hneI,Wk hneS]) _ es.size 0 _ _ _ rfl (Yc _) ⟨X2.at fun o e=>oth S o hneS e,_,oth Ia _ hneI gI,rfl,by rw [s0];rfl⟩ g2 (ItemsOf.nil _) fun s' acc' c' hm hS' hacc=>?_⟩;show wpAny _ A (load s.heap.objs.size >>= _) _ _ s';refine Zc (wpAny_load hS' (Zi ?_));obtain⟨h',g',d',tk',os'⟩:=s'
 have eg:g'=s.gens:=hm.gens;have ed:d'=s.drawn:=hm.drawn;have eo:os'=s.os:=hm.os;subst eg;subst ed;subst eo;have ea:acc'.toList=(zei w S ep es).toList.map (·.2):=by
  refine Ji fun j=>?_;rw [Zj,Zy,Zy];cases z:acc'[j]? with
  | none=>
   have h1:acc'.size<=j:=by simpa using z
   rw [hacc.1] at h1;have h2:(zei w S ep es)[j]? = none:=by rw [<- zha w S ep es] at h1;simpa using h1
   rw [h2];rfl
  | some v=>exact (hacc.2 j v z).symm
 rw [ea];refine hQ h' tk' (Zp hS') fun b o e=>?_;have hb:=Zp e;exact hm.heap b o (by
  intro q;rcases Zf.mp q with q | q
  ·exact Z3 hb q
  ·rw [Zu.mp q,hIa'] at hb;exact Nat.lt_irrefl _ (Nat.lt_of_succ_lt hb)) (oth b o (Z3 hb) (Zh _ (Zh _ e)))
end
end DL
namespace DL
open PySem PySem.W PyProof.Rows
structure Ord (N:Nat) (b:Nat->Nat->Bool):Prop where
 tr:∀ i j k,b i j=true->b j k=true->b i k=true
 tot:∀ i j,i<N->j<N->i≠j->b i j=true\/b j i=true
 asy:∀ i j,b i j=true->b j i=true->False
def Arr (N:Nat) (p:Array Nat):Prop:=p.toList.Perm (List.range N)
def Srt (b:Nat->Nat->Bool) (p:Array Nat) (k:Nat):Prop:=∀ i j,i<j->j<k->b (p.getD i 0) (p.getD j 0)=true
section
variable {b:Nat->Nat->Bool} {N:Nat} {p:Array Nat}
theorem Arr.size (h:Arr N p):p.size=N:=by
 have:=h.length_eq
 simpa using this
theorem gd {i:Nat} (h:i<p.size):p.getD i 0=p[i]:=by simp [Array.getD,h]
theorem gd? {q:Array Nat} {i j:Nat} (h:p[i]? = q[j]?):p.getD i 0=q.getD j 0:=by
 have e:∀ (a:Array Nat) (k:Nat),a.getD k 0=(a[k]?).getD 0:=fun a k=>by
  by_cases q:k<a.size
  ·rw [gd q,Zr q];rfl
  ·simp [Array.getD,q]
 rw [e,e,h]
theorem Arr.lt (h:Arr N p) (hN:0<N) (i:Nat):p.getD i 0<N:=by
 by_cases q:i<p.size
 ·rw [gd q];exact Qd.mp (h.mem_iff.mp (Array.mem_toList_iff.mpr (Array.getElem_mem q)))
 ·rw [show p.getD i 0=0 by simp [Array.getD,q]];exact hN
theorem Arr.inj (h:Arr N p) {i j:Nat} (hi:i<N) (hj:j<N) (e:p.getD i 0=p.getD j 0):i=j:=by
 have nd:p.toList.Nodup:=h.nodup_iff.mpr Bt;have hi':i<p.size:=by rw [h.size];exact hi
 have hj':j<p.size:=by rw [h.size];exact hj
 rw [gd hi',gd hj'] at e;have:=Q1.mp nd
 rcases Bq i j with q | q | q
 ·have hh:=this i j hi' hj' q;rw [Qf,Qf] at hh;exact absurd e hh
 ·exact q
 ·have hh:=this j i hj' hi' q;rw [Qf,Qf] at hh;exact absurd e.symm hh
theorem Arr.perm {q:Array Nat} (h:Arr N p) (e:q.Perm p):Arr N q:=(Array.perm_iff_toList_perm.mp e).trans h
theorem Srt.more (O:Ord N b) {n:Nat} (h:Srt b p n) (h1:1<=n) (e:b (p.getD (n-1) 0) (p.getD n 0)=true):Srt b p (n+1):=fun i j hij hj=>by
 by_cases q:j<n
 ·exact h i j hij q
 ·have:j=n:=by omega
  subst this;by_cases z:i=j-1
  ·subst z;exact e
  ·exact O.tr _ _ _ (h i (j-1) (by omega) (by omega)) e
theorem Ord.not (O:Ord N b) (A:Arr N p) {i j:Nat} (hi:i<N) (hj:j<N) (ne:i≠j) (h:b (p.getD i 0) (p.getD j 0)=false):b (p.getD j 0) (p.getD i 0)=true:=by
 rcases O.tot (p.getD i 0) (p.getD j 0) (A.lt (by omega) i) (A.lt (by omega) j) (fun e=>ne (A.inj hi hj e)) with q | q
 ·rw [h] at q;cases q
 ·exact q
section
variable {cmp:Nat->Nat->(Bool->Shared->Prop)->Shared->Prop} {s:Shared}
abbrev zqd (N:Nat) (b:Nat->Nat->Bool) (s:Shared) (cmp:Nat->Nat->(Bool->Shared->Prop)->Shared->Prop):Prop:=∀ (i j:Nat) (C:Bool->Shared->Prop),i<N->j<N->C (b i j) s->cmp i j C s
theorem zzy (hc:zqd N b s cmp) (O:Ord N b) (A:Arr N p):∀ (f n:Nat) (G:Nat->Shared->Prop),1<=n->n+f<=N->Srt b p n->(∀ m,n<=m->m<=n+f->Srt b p m->(m<n+f->b (p.getD m 0) (p.getD (m-1) 0)=true)->G m s)->(kas_asc p f n).kasWp cmp G s
 | 0,n,G,h1,h2,h3,h4=>h4 n (Zg _) (by omega) h3 fun h=>by omega
 | f+1,n,G,h1,h2,h3,h4=>by
  unfold kas_asc;refine hc _ _ _ (A.lt (by omega) _) (A.lt (by omega) _) ?_;cases e:b (p.getD n 0) (p.getD (n-1) 0) with
  | true=>
   dsimp only;rw [if_pos rfl];exact h4 n (Zg _) (by omega) h3 fun _=>e
  | false=>
   dsimp only;rw [if_neg Z2];exact zzy hc O A f (n+1) G (by omega) (by omega) (h3.more O h1 (O.not A (by omega) (by omega) (by omega) e)) fun m a1 a2 a3 a4=>h4 m (by omega) (by omega) a3 fun z=>a4 (by omega)
def Fal (b:Nat->Nat->Bool) (p:Array Nat) (k:Nat):Prop:=∀ i j,i<j->j<k->b (p.getD j 0) (p.getD i 0)=true
theorem Fal.more (O:Ord N b) {n:Nat} (h:Fal b p n) (h1:1<=n) (e:b (p.getD n 0) (p.getD (n-1) 0)=true):Fal b p (n+1):=fun i j hij hj=>by
 by_cases q:j<n
 ·exact h i j hij q
 ·have:j=n:=by omega
  subst this;by_cases z:i=j-1
  ·subst z;exact e
  ·exact O.tr _ _ _ e (h i (j-1) (by omega) (by omega))
theorem zyq (hc:zqd N b s cmp) (O:Ord N b) (A:Arr N p):∀ (f n:Nat) (G:Array Nat×Nat×Nat->Shared->Prop),1<=n->n+f<=N->Fal b p n->(∀ m,n<=m->m<=n+f->Fal b p m->G (p,m,0) s)->(kas_desc f p n 0).kasWp cmp G s
 | 0,n,G,h1,h2,h3,h4=>h4 n (Zg _) (by omega) h3
 | f+1,n,G,h1,h2,h3,h4=>by
  unfold kas_desc;refine hc _ _ _ (A.lt (by omega) _) (A.lt (by omega) _) ?_;cases e:b (p.getD n 0) (p.getD (n-1) 0) with
  | true=>
   dsimp only;rw [if_pos rfl,if_neg (by omega)];exact zyq hc O A f (n+1) G (by omega) (by omega) (h3.more O h1 e) fun m a1 a2 a3=>h4 m (by omega) (by omega) a3
  | false=>
   dsimp only;rw [if_neg Z2];refine hc _ _ _ (A.lt (by omega) _) (A.lt (by omega) _) ?_;dsimp only;rw [O.not A (by omega) (by omega) (by omega) e,if_pos rfl];exact h4 n (Zg _) (by omega) h3
theorem zwd (A:Arr N p) (i j:Nat):Arr N (kas_rev p i j):=A.perm (mirror_perm _ _ _ _)
theorem yic {n:Nat} (hn:n<=p.size) (h:Fal b p n):Srt b (kas_rev p 0 n) n:=fun i j hij hj=>by
 have e:∀ k,k<n->(kas_rev p 0 n).getD k 0=p.getD (n-1-k) 0:=fun k hk=>by
  unfold kas_rev;refine gd? ?_;rw [getElem?_mirror_all hn,if_pos (by omega),Y8]
 rw [e i (by omega),e j (by omega)];exact h _ _ (by omega) (by omega)
theorem ybe (hc:zqd N b s cmp) (O:Ord N b) (A:Arr N p) {n:Nat} {G:Nat×Array Nat->Shared->Prop} (h1:1<=n) (h2:n<=N) (h3:Fal b p n) (h4:∀ m q,Arr N q->1<=m->m<=N->Srt b q m->G (m,q) s):(kas_tail3 n N p).kasWp cmp G s:=by
 unfold kas_tail3;rw [KasT.kasWp_bind];exact zzy hc O (zwd A 0 n) (N-n) n _ h1 (by omega) (yic (by rw [A.size];exact h2) h3) fun m a1 a2 a3 _=>h4 m _ (zwd A 0 n) (by omega) (by omega) a3
theorem ydu (hc:zqd N b s cmp) (O:Ord N b) (A:Arr N p) {G:Nat×Array Nat->Shared->Prop} (hN:1<=N) (h4:∀ m q,Arr N q->1<=m->m<=N->Srt b q m->G (m,q) s):(kas_count N p).kasWp cmp G s:=by
 unfold kas_count;rw [KasT.kasWp_bind];refine zzy hc O A (N-1) 1 _ (Zg _) (by omega) (fun i j a b=>by omega) fun m a1 a2 a3 a4=>?_;by_cases e1:(m == N)=true
 ·rw [if_pos e1];exact h4 m p A a1 (by omega) a3
 ·rw [if_neg e1];have hm:m<N:=by
   have:m≠N:=fun q=>e1 (by rw [q];exact beq_self_eq_true _)
   omega
  by_cases e2:m > 1
  ·rw [if_pos e2];refine hc _ _ _ (A.lt (by omega) _) (A.lt (by omega) _) ?_;dsimp only;rw [a3 0 (m-1) (by omega) (by omega),if_pos rfl];exact h4 m p A a1 (by omega) a3
  ·rw [if_neg e2];have:m=1:=by omega
   subst this;unfold kas_descPart;rw [KasT.kasWp_bind];refine zyq hc O A (N-(1+1)) (1+1) _ (by omega) (by omega) (fun i j a c=>?_) fun m b1 b2 b3=>?_
   ·have h0:i=0:=by omega
    have h1:j=1:=by omega
    subst h0;subst h1;exact a4 (by omega)
   ·dsimp only;rw [if_neg (by omega)];exact ybe hc O A (by omega) (by omega) b3 h4
theorem zld (hc:zqd N b s cmp) (O:Ord N b) (A:Arr N p) {k:Nat} (hk:k<N) (hs:Srt b p k):∀ (f l r:Nat) (G:Nat->Shared->Prop),l<=r->r<=k->r-l<=f->(∀ i,i<l->b (p.getD k 0) (p.getD i 0)=false)->(∀ i,r<=i->i<k->b (p.getD k 0) (p.getD i 0)=true) ->
   (∀ m,m<=k->(∀ i,i<m->b (p.getD k 0) (p.getD i 0)=false)->(∀ i,m<=i->i<k->b (p.getD k 0) (p.getD i 0)=true)->G m s)->(kas_place p k f l r).kasWp cmp G s
 | 0,l,r,G,h1,h2,h3,h4,h5,h6=>by
  have:l=r:=by omega
  subst this;exact h6 l h2 h4 h5
 | f+1,l,r,G,h1,h2,h3,h4,h5,h6=>by
  unfold kas_place;by_cases q:l >= r
  ·rw [if_pos q];have:l=r:=by omega
   subst this;exact h6 l h2 h4 h5
  ·rw [if_neg q];refine hc _ _ _ (A.lt (by omega) _) (A.lt (by omega) _) ?_;cases e:b (p.getD k 0) (p.getD ((l+r)/2) 0) with
   | true=>
    dsimp only;rw [if_pos rfl];refine zld hc O A hk hs f l _ G (by omega) (by omega) (by omega) h4 (fun i hi hik=>?_) h6;by_cases z:i=(l+r)/2
    ·subst z;exact e
    ·exact O.tr _ _ _ e (hs _ i (by omega) hik)
   | false=>
    dsimp only;rw [if_neg Z2];refine zld hc O A hk hs f _ r G (by omega) h2 (by omega) (fun i hi=>?_) h5 h6;by_cases z:i=(l+r)/2
    ·subst z;exact e
    ·cases w:b (p.getD k 0) (p.getD i 0) with
     | false=>rfl
     | true=>
      have:=O.tr _ _ _ w (hs i ((l+r)/2) (by omega) (by omega))
      rw [e] at this;cases this
theorem ylc (O:Ord N b) (A:Arr N p) {k m:Nat} (hk:k<N) (hm:m<=k) (hs:Srt b p k) (h1:∀ i,i<m->b (p.getD k 0) (p.getD i 0)=false) (h2:∀ i,m<=i->i<k->b (p.getD k 0) (p.getD i 0)=true):Srt b (bubble p k (k-m)) (k+1):=by
 have hz:k<p.size:=by rw [A.size];exact hk
 have e:∀ i,(bubble p k (k-m)).getD i 0=p.getD (if i=m then k else if m<i/\i<=k then i-1 else i) 0:=fun i=>by
  refine gd? ?_;rw [getElem?_bubble hz (k-m) (by omega),show k-(k-m)=m by omega];by_cases q:i=m
  ·rw [if_pos q,if_pos q]
  ·rw [if_neg q,if_neg q];by_cases q2:m<i/\i<=k
   ·rw [if_pos q2,if_pos q2]
   ·rw [if_neg q2,if_neg q2]
 intro i j hij hj;rw [e,e];by_cases qi:i=m
 ·rw [if_pos qi,if_neg (by omega),if_pos (by omega)];exact h2 _ (by omega) (by omega)
 ·rw [if_neg qi];by_cases qi2:m<i/\i<=k
  ·rw [if_pos qi2,if_neg (by omega),if_pos (by omega)];exact hs _ _ (by omega) (by omega)
  ·rw [if_neg qi2];by_cases qj:j=m
   ·rw [if_pos qj];exact O.not A hk (by omega) (by omega) (h1 i (by omega))
   ·rw [if_neg qj];by_cases qj2:m<j/\j<=k
    ·rw [if_pos qj2];exact hs _ _ (by omega) (by omega)
    ·rw [if_neg qj2];exact hs _ _ (by omega) (by omega)
theorem ygt (O:Ord N b) (hc:zqd N b s cmp):∀ (f k:Nat) (p:Array Nat) (G:Array Nat->Shared->Prop),Arr N p->k+f=N->Srt b p k->(∀ q,Arr N q->Srt b q N->G q s)->(kas_bin f p k).kasWp cmp G s
 | 0,k,p,G,A,h1,h2,h3=>by
  have:k=N:=by omega
  subst this;exact h3 p A h2
 | f+1,k,p,G,A,h1,h2,h3=>by
  unfold kas_bin;rw [KasT.kasWp_bind];refine zld hc O A (by omega) h2 k 0 k _ (Yc _) (Zg _) (by omega) (fun i hi=>by omega) (fun i hi hik=>by omega) fun m a1 a2 a3=>?_;exact ygt O hc f (k+1) _ G (A.perm (bubble_perm _ _ _)) (by omega) (ylc O A (by omega) a1 h2 a2 a3) h3
theorem yhq (O:Ord N b) (hc:zqd N b s cmp) (hN:1<=N) {G:Array Nat->Shared->Prop} (h:∀ q,Arr N q->Srt b q N->G q s):(kas_sort N).kasWp cmp G s:=by
 unfold kas_sort;rw [KasT.kasWp_bind];refine ydu hc O (Kd _) hN fun m q a1 a2 a3 a4=>?_;dsimp only;by_cases e:m<N
 ·rw [if_pos e,show max m 1=m by omega];exact ygt O hc (N-m) m q G a1 (by omega) a4 h
 ·rw [if_neg e];have:m=N:=by omega
  subst this;exact h q a1 a4
end
end
end DL
namespace DL
open PySem PySem.W PyProof.Rows
def ltK:List Int->List Int->Bool
 | [a,b],[c,d]=>decide (a<c) || (decide (a=c) && decide (b<d))
 | _,_=>false
def isPr:List Int->Bool
 | [_,_]=>true
 | _=>false
theorem yfx:∀ x y z,ltK x y=true->ltK y z=true->ltK x z=true
 | [a,b],[c,d],[e,f],h1,h2=>by
  simp only [ltK,J0,Zq,decide_eq_true_eq] at h1 h2 |-;omega
theorem zll:∀ x y,ltK x y=true->ltK y x=true->False
 | [a,b],[c,d],h1,h2=>by
  simp only [ltK,J0,Zq,decide_eq_true_eq] at h1 h2;omega
theorem zxj:∀ x y,isPr x=true->isPr y=true->x≠y->ltK x y=true\/ltK y x=true
 | [a,b],[c,d],_,_,h=>by
  simp only [ltK,J0,Zq,decide_eq_true_eq];have:¬ (a=c/\b=d):=fun hz=>xg hz fun e1 e2=>h (by rw [e1,e2])
  omega
theorem zla {prog:Program} {w:World} {a b:Int} {vs:List Value} (h:ItemsAre (intKind prog w) [a,b] vs):∃ t u,vs=[.int a t,.int b u]:=by
 cases h with
 | cons h1 h2=>
  cases h2 with
  | cons h2 h3=>
   cases h3;refine xb (Jf h1) fun t e1=>?_;refine xb (Jf h2) fun u e2=>?_;exact⟨t,u,by rw [e1,e2]⟩
theorem yce {α:Type} {R:α->α->Prop} {l:List α} (h:l.length<2):l.Pairwise R:=by
 cases l with
 | nil=>exact List.Pairwise.nil
 | cons x r=>
  cases r with
  | nil=>exact Ka _ _
  | cons y r=>rw [Zk,Zk] at h;omega
section
variable {prog:Program} {w:World} {A:Around} {E:Value->Shared->Prop} {s:Shared}
theorem lt_pr {k l:List Int} {x y:Addr} {Q:Bool->Shared->Prop} (hk:isPr k=true) (hl:isPr l=true) (hx:IsTK prog w s.heap k x) (hy:IsTK prog w s.heap l y) (h:Q (ltK k l) s):wpAny (model prog w) A (keyLt' (tuples' true) (.ref x) (.ref y)) Q E s:=by
 match k,hk,l,hl,hx,hy,h with
 | [a,b],_,[c,d],_,hx,hy,h=>
  refine xt hx fun ox ix n gx _ dx px=>?_;clear hx
  refine xt hy fun oy iy m gy _ dy py=>?_;clear hy
  refine xl (zla px) fun t u ex=>?_;refine xl (zla py) fun t' u' ey=>?_;have sx:ix.size=2:=by rw [<- Z6,ex];rfl
  have sy:iy.size=2:=by rw [<- Z6,ey];rfl
  refine kat_lt gx dx gy dy ?_;rw [ex,ey,sx,sy];refine kat_cons (V1 ?_);by_cases e:a=c
  ·rw [show (a == c)=true by simpa using e];refine kat_yes (kat_cons (V1 ?_));by_cases e2:b=d
   ·rw [show (b == d)=true by simpa using e2];refine kat_yes (kat_nil ?_);have:ltK [a,b] [c,d]=decide (2<2):=by subst e;subst e2;simp [ltK]
    rw [this] at h;exact h
   ·rw [show (b == d)=false by simpa using e2];refine kat_no (kat_one _ _ (lt_int ?_));have:ltK [a,b] [c,d]=decide (b<d):=by subst e;simp [ltK]
    rw [this] at h;exact h
  ·rw [show (a == c)=false by simpa using e];refine kat_no ?_;show wpAny _ _ (oneLt' true _ _) _ _ _;refine oneLt_int ?_;have:ltK [a,b] [c,d]=decide (a<c):=by simp [ltK,e]
   rw [this] at h;exact h
theorem katT:∀ (xs:List (List Int×Addr)),(∀ x∈xs,IsTK prog w s.heap x.1 x.2/\isPr x.1=true)->∃ fs,KatTups s.heap (xs.map fun x=>Value.ref x.2) fs/\fs.length=xs.length/\∀ v∈fs,∃ i t,v=.int i t
 | [],_=>⟨[],trivial,rfl,fun v h=>by cases h⟩
 | (k,a)::xs,h=>by
  refine xh (katT xs fun x hx=>h x (.tail _ hx)) fun fs h1 h2 h3=>?_;refine xg (h (k,a) (.head _)) fun hk hp=>?_;match k,hp,hk with
  | [c,d],_,hk=>
   refine xt hk fun o its n g hc hd pi=>?_;clear hk
   refine xl (zla pi) fun t u e=>?_;refine⟨.int c t::fs,KatTups.cons g hc hd ?_ h1,by simp [h2],fun v hv=>?_⟩
   ·have:its = #[.int c t,.int d u]:=by apply Jn.mp;rw [e]
    rw [this];rfl
   ·rcases Zf.mp hv with e | hv
    ·exact⟨c,t,e⟩
    ·exact h3 v hv
theorem yhp {a:Addr} {xs:List (List Int×Addr)} {n:Nat} {P:PySem.Fin->Shared->Prop} (ho:s.heap.get? a=some (seqObj "list" (xs.map fun x=>Value.ref x.2).toArray n)) (htk:∀ x∈xs,IsTK prog w s.heap x.1 x.2/\isPr x.1=true)
  (nd:(xs.map (·.1)).Nodup) (h64:xs.length<64)
  (h:∀ h' (ys:List (List Int×Addr)) n',ys.Perm xs->ys.Pairwise (fun x y=>ltK x.1 y.1=true)->h'.get? a=some (seqObj "list" (ys.map fun x=>Value.ref x.2).toArray n')->(∀ b o,b≠a->s.heap.get? b=some o->h'.get? b=some o)->P (.done (.ret .none)) {s with heap:=h'}) :
  wpAny (model prog w) A (Builtin.«list.sort» ⟨[.ref a],[]⟩) P E s:=by
 generalize hvs:(xs.map fun x=>Value.ref x.2)=vs at ho;have hlen:vs.length=xs.length:=by rw [<- hvs];simp
 have ha:a<s.heap.objs.size:=Zp ho;have s1:=Wz s.heap a (Obj.mapSeq fun _=>(#[]:Array Value));obtain⟨e1,ho1⟩:∃ e1,(s.heap.update a (Obj.mapSeq fun _=>(#[]:Array Value))).get? a=some (seqObj "list" #[] e1):=⟨_,get?_update_seq ho fun _=>#[]⟩
 generalize hH:((s.heap.update a (Obj.mapSeq fun _=>(#[]:Array Value))).push (seqObj "tuple" vs.toArray 0)).push (seqObj "list" #[] 0)=H;have ho6:H.get? a=some (seqObj "list" #[] e1):=by rw [<- hH];exact Zh _ (Zh _ ho1)
 have keep:∀ b o,b≠a->s.heap.get? b=some o->H.get? b=some o:=fun b o hb e=>by
  rw [<- hH];exact Zh _ (Zh _ ((s1.2 b hb).trans e))
 have hna:∀ x∈xs,x.2≠a:=fun x hx e=>by
  obtain⟨⟨o,_,_,g,hc,_⟩,_⟩:=htk x hx
  rw [e,ho] at g;cases g;injection hc with e
  exact absurd e (by decide)
 have htk6:∀ x∈xs,IsTK prog w H x.1 x.2/\isPr x.1=true:=fun x hx=>by
  obtain⟨⟨o,its,m,g,r⟩,hp⟩:=htk x hx
  exact⟨⟨o,its,m,keep _ _ (hna x hx) g,r⟩,hp⟩
 have fin:∀ (s':Shared) (ys:List (List Int×Addr)),s'={s with heap:=H}->ys.Perm xs->ys.Pairwise (fun x y=>ltK x.1 y.1=true)->P (.done (.ret .none)) {s' with heap:=s'.heap.update a (Obj.mapSeq fun _=>(ys.map fun x=>Value.ref x.2).toArray)}:=fun s' ys e hp hw=>by
  subst e;refine h _ ys _ hp hw (get?_update_seq ho6 fun _=>(ys.map fun x=>Value.ref x.2).toArray) fun b o hb e=>?_;exact ((Wz H a _).2 b hb).trans (keep b o hb e)
 rw [list_sort_plain];refine Zc (Bl ho rfl ?_);refine Zc (J3 ho rfl ?_ (by rw [Zv,Qp];omega) (Yc _));refine Zc (seqEpoch_at ho1 rfl ?_);refine Zc (wpAny_newTuple ?_ (by show vs.length<=_;rw [Qp];omega));refine Zc (wpAny_newList ?_ (Yc _));refine Yq ?_;show wpAny (model prog w) A _ P E {s with heap:=((s.heap.update a (Obj.mapSeq fun _=>(#[]:Array Value))).push (seqObj "tuple" vs.toArray 0)).push (seqObj "list" #[] 0)};rw [hH];dsimp only;by_cases h2:vs.toArray.size<2
 ·rw [if_pos h2,if_pos h2];refine Zc (Zi ?_);rw [StateT.run_pure];refine Zc (Zi ?_);dsimp only;refine Zc (seqEpoch_at ho6 rfl ?_);refine Zc (J3 ho6 rfl ?_ (Yc _) (by rw [Array.size_map];show (pairsOf vs).size<=_;rw [pairsOf_size,Qp];omega));simp only [bne_self_eq_false,Z0,if_false];have e2:(arrOf (SortSt.mk' general' (vs.toArray.zip vs.toArray) #[] 7 none)).map (·.2)=(xs.map fun x=>Value.ref x.2).toArray:=by
   rw [hvs];apply Jn.mp
   refine Ji fun i=>?_;show (((pairsOf vs).map (·.2)).toList)[i]? = _;by_cases q:i<vs.length
   ·simp [pairsOf,q]
   ·simp [pairsOf,q]
  refine Zi ?_;have:=fin {s with heap:=H} xs rfl (Kd _) (yce (by
   rw [Zv,hlen] at h2;exact h2))
  rw [<- e2] at this;exact this
 ·rw [if_neg h2,if_neg h2];rw [Zv] at h2;refine xh (katT (s:={s with heap:=H}) xs htk6) fun fs kt kl ki=>?_;rw [hvs] at kt;refine Zc (kat_kind (T:=.type "int") kt (by omega) (fun v hv=>?_) rfl ?_)
  ·refine xl (ki v hv) fun i t qz2=>?_;subst qz2
   exact Looks.of_pure rfl
  have est:SortSt.mk' (tuples' true) (vs.toArray.zip vs.toArray) #[] 7 none=kas_st (tuples' true) (pairsOf vs) (List.toArray (List.range vs.length)):=by
   have e:=kas_range (pairsOf vs);rw [pairsOf_size] at e;show SortSt.mk' (tuples' true) (pairsOf vs) #[] 7 none=SortSt.mk' (tuples' true) ((List.toArray (List.range vs.length)).map (kas_item (pairsOf vs))) #[] 7 none;rw [e]
  let b:Nat->Nat->Bool:=fun i j=>ltK (xs.getD i ([],0)).1 (xs.getD j ([],0)).1
  have gx:∀ i,i<xs.length->xs.getD i ([],0)∈xs:=fun i hi=>by
   rw [Zm,Ze hi];exact Js hi
  have gv:∀ i,i<xs.length->vs.getD i Value.none=.ref (xs.getD i ([],0)).2:=fun i hi=>by
   rw [<- hvs,Zm,Zj,Zm,Ze hi];rfl
  have O:Ord vs.length b:=⟨fun i j k=>yfx _ _ _,fun i j hi hj ne=>zxj _ _ (htk _ (gx i (by omega))).2 (htk _ (gx j (by omega))).2 (fun e=>ne (by
   have hi':i<xs.length:=by omega
   have hj':j<xs.length:=by omega
   rw [Zm,Ze hi',Zm,Ze hj'] at e;have:=(Ko (h₀:=by simpa using hi') (h₁:=by simpa using hj') nd).mp (by simpa using e)
   exact this)),fun i j=>zll _ _⟩
  have ask:(kas_sort vs.length).kasWp (kas_cmp prog w A (tuples' true) (pairsOf vs)) (fun p s'=>s'={s with heap:=H}/\Arr vs.length p/\Srt b p vs.length) {s with heap:=H}:=by
   refine yhq O (fun i j C hi hj hC=>?_) (by omega) fun q h1 h2=>⟨rfl,h1,h2⟩
   unfold kas_cmp;rw [kas_item_eq,kas_item_eq,gv i (by omega),gv j (by omega)];exact lt_pr (htk6 _ (gx i (by omega))).2 (htk6 _ (gx j (by omega))).2 (htk6 _ (gx i (by omega))).1 (htk6 _ (gx j (by omega))).1 hC
  have run:=kas_runs (E:=E) (Q:=fun _ st' s'=>∃ p:Array Nat,p.size=vs.length/\arrOf st'=p.map (kas_item (pairsOf vs))/\failedOf st'=none/\s'={s with heap:=H}/\Arr vs.length p/\Srt b p vs.length)
   (by omega) (by omega) (fun p' st' s' a1 a2 a3 a4=>⟨p',a1,a2,a3,a4⟩) ask
  rw [<- est] at run;refine Zc (K7 run ?_ fun _ _ e=>e);rintro⟨⟨⟩,st'⟩ s' ⟨p,hp,har,hf,rfl,hA,hS⟩
  dsimp only;have hout:(arrOf st').map (·.2)=((p.toList.map fun i=>xs.getD i ([],0)).map fun x=>Value.ref x.2).toArray:=by
   apply Jn.mp
   rw [har,Array.map_map,Array.toList_map,Wv];refine Gz fun i hi=>?_;show (kas_item (pairsOf vs) i).2=_;rw [kas_item_eq];exact gv i (by have:=Qd.mp (hA.mem_iff.mp hi);omega)
  rw [hout];refine Zc (seqEpoch_at ho6 rfl ?_);refine Zc (J3 ho6 rfl ?_ (Yc _) (by
   have:p.toList.length=vs.length:=by rw [Z6,hp]
   simp only [Zv,Zd,this];rw [Qp];omega))
  rw [hf];simp only [bne_self_eq_false,Z0,if_false];refine Zi (fin {s with heap:=H} _ rfl ?_ ?_)
  ·have e0:xs=(List.range xs.length).map fun i=>xs.getD i ([],0):=by
    refine List.ext_getElem (by simp) fun i h1 h2=>?_;simp [h1]
   have:=hA.map fun i=>xs.getD i ([],0)
   rw [hlen,<- e0] at this;exact this
  ·rw [W4,Q1];intro i j hi hj hij;have hi':i<p.size:=by simpa using hi
   have hj':j<p.size:=by simpa using hj
   have:=hS i j hij (by omega)
   rw [gd hi',gd hj'] at this;rw [Qf,Qf];exact this
end
end DL
namespace DL
open PySem PySem.W PyProof.Rows
theorem zno {α β:Type} {f:α->β} {l m:List β} (h:l.Perm m):∀ σ:List α,m=σ.map f->∃ xs:List α,xs.Perm σ/\l=xs.map f:=by
 induction h with
 | nil=>intro σ e;exact⟨σ,.refl _,e⟩
 | cons a _ ih=>
  intro σ e;cases σ with
  | nil=>cases e
  | cons x σ=>
   rw [Zz] at e;injection e with e1 e2
   refine xa (ih σ e2) fun xs h1 h2=>?_;exact⟨x::xs,h1.cons x,by rw [h2,e1];rfl⟩
 | swap a b l=>
  intro σ e;cases σ with
  | nil=>cases e
  | cons x σ=>
   cases σ with
   | nil=>cases e
   | cons y σ=>
    rw [Zz,Zz] at e;injection e with e1 e2
    injection e2 with e2 e3
    exact⟨y::x::σ,.swap _ _ _,by rw [e1,e2,e3];rfl⟩
 | trans _ _ ih1 ih2=>
  intro σ e;refine xa (ih2 σ e) fun xs h1 h2=>?_;refine xa (ih1 xs h2) fun ys h3 h4=>?_;exact⟨ys,h3.trans h1,h4⟩
section
variable {prog:Program} {w:World} {A:Around} {E:Value->Shared->Prop} {s:Shared}
theorem ztj {S:Addr} {σ:List (List Int×Addr)} {Q:Value->Shared->Prop} (hh:A.handled=none) (hS:SetP prog w s.heap S (zgd w) σ) (hpr:∀ x∈σ,isPr x.1=true) (h64:σ.length<64)
  (h:∀ h' tk D (ys:List (List Int×Addr)) n,ys.Perm σ->ys.Pairwise (fun x y=>ltK x.1 y.1=true)->h'.get? D=some (seqObj "list" (ys.map fun x=>Value.ref x.2).toArray n)->s.heap.objs.size<=D->(∀ b o,s.heap.get? b=some o->h'.get? b=some o)->Q (.ref D) {s with heap:=h',toks:=tk}) :
  wpAny (model prog w) A (call (.builtin "sorted") [.ref S]) Q E s:=by
 refine vg hS fun o es ep t ho hx hd T pl ld fw pm nd tk=>?_;clear hS
 have X:SetAt w s.heap S es ep t:=⟨⟨o,ho,hx,hd⟩,T,pl,ld,fw⟩;refine xa (zno ((zrl w S ep es).trans pm) σ rfl) fun xs hp he=>?_;refine Calls.call_function_entry kind_sorted plain_sorted entry_sorted (args_sorted1 _) ?_;unfold Builtin.«sorted»;refine Zc (m:=checkCount "sorted" 1 1 _) (Zi ?_);refine Zc (zpy (by simp [hh]) X fun h' tk' hlt keep=>?_);have hvs:(zei w S ep es).toList.map (·.2)=xs.map fun x=>Value.ref x.2:=by
  rw [he,Wv];rfl
 rw [hvs];refine Zc (wpAny_newList ?_ (by rw [Zd,hp.length_eq,Qp];omega));have hoL:(h'.push (seqObj "list" (xs.map fun x=>Value.ref x.2).toArray 0)).get? h'.objs.size=some (seqObj "list" (xs.map fun x=>Value.ref x.2).toArray 0):=Z8 _ rfl;show wpAny _ _ _ _ _ {s with heap:=h'.push (seqObj "list" (xs.map fun x=>Value.ref x.2).toArray 0),toks:=tk'};refine Zc (Yq (Qr slot_list_sort ⟨_,hoL,rfl⟩ entry_list_sort ?body (args_list_sort _)))
 case body=>
  refine yhp (xs:=xs) hoL (fun x hx=>?_) ((hp.map _).nodup_iff.mpr nd) (by rw [hp.length_eq];exact h64) fun h2 ys n' hy hw hg kp=>⟨_,rfl,Zi ⟨_,rfl,h h2 tk' _ ys n' (hy.trans hp) hw hg (Q8 hlt) fun b o e=>?_⟩⟩
  ·have hx':=hp.mem_iff.mp hx;refine xn (tk x hx') fun o' its m g r=>?_;exact⟨⟨o',its,m,Zh _ (keep _ _ g),r⟩,hpr x hx'⟩
  ·exact kp b o (Z3 (Zp (keep _ _ e))) (Zh _ (keep _ _ e))
end
end DL
namespace DL
open PySem L2 PyProof.Rows
def insK (k:List Int):List (List Int)->List (List Int)
 | []=>[k]
 | x::l=>if ltK k x=true then k::x::l else if k=x then x::l else x::insK k l
def ssK:List (List Int)->List (List Int)
 | []=>[]
 | k::l=>insK k (ssK l)
abbrev SrtK (l:List (List Int)):Prop:=l.Pairwise fun x y=>ltK x y=true
theorem insK_mem {k x:List Int}:∀ {l:List (List Int)},x∈insK k l↔x=k\/x∈l
 | []=>by simp [insK]
 | y::l=>by
  unfold insK;split
  ·simp
  ·split
   ·rename_i e;subst e;simp
   ·rw [Zf,insK_mem,Zf];constructor
    ·rintro (h | h | h)
     ·exact .inr (.inl h)
     ·exact .inl h
     ·exact .inr (.inr h)
    ·rintro (h | h | h)
     ·exact .inr (.inl h)
     ·exact .inl h
     ·exact .inr (.inr h)
theorem zrx {k:List Int} (hk:isPr k=true):∀ {l:List (List Int)},(∀ x∈l,isPr x=true)->SrtK l->SrtK (insK k l)
 | [],_,_=>Ka _ _
 | y::l,hp,hs=>by
  refine xg (Z9.mp hs) fun h1 h2=>?_;unfold insK;split
  ·rename_i e;refine Z9.mpr ⟨fun x hx=>?_,hs⟩;rcases Zf.mp hx with q | q
   ·rw [q];exact e
   ·exact yfx _ _ _ e (h1 x q)
  ·rename_i e;split
   ·exact hs
   ·rename_i ne;refine Z9.mpr ⟨fun x hx=>?_,zrx hk (fun x hx=>hp x (.tail _ hx)) h2⟩;rcases insK_mem.mp hx with q | q
    ·rw [q];exact (zxj k y hk (hp y (.head _)) ne).resolve_left e
    ·exact h1 x q
theorem ssK_mem {x:List Int}:∀ {l:List (List Int)},x∈ssK l↔x∈l
 | []=>Iff.rfl
 | k::l=>by
  unfold ssK;rw [insK_mem,ssK_mem,Zf]
theorem zpc:∀ {l:List (List Int)},(∀ x∈l,isPr x=true)->SrtK (ssK l)
 | [],_=>List.Pairwise.nil
 | k::l,h=>zrx (h k (.head _)) (fun x hx=>h x (.tail _ (ssK_mem.mp hx))) (zpc fun x hx=>h x (.tail _ hx))
theorem yfe:∀ {l m:List (List Int)},SrtK l->SrtK m->(∀ x,x∈l↔x∈m)->l=m
 | [],[],_,_,_=>rfl
 | [],y::m,_,_,h=>by have:=(h y).mpr (.head _);cases this
 | x::l,[],_,_,h=>by have:=(h x).mp (.head _);cases this
 | x::l,y::m,hl,hm,h=>by
  refine xg (Z9.mp hl) fun a1 a2=>?_;refine xg (Z9.mp hm) fun b1 b2=>?_;have e:x=y:=by
   rcases Zf.mp ((h x).mp (.head _)) with q | q
   ·exact q
   ·rcases Zf.mp ((h y).mpr (.head _)) with q2 | q2
    ·exact q2.symm
    ·exact (zll _ _ (b1 x q) (a1 y q2)).elim
  subst e;rw [yfe a2 b2 fun z=>⟨fun hz=>?_,fun hz=>?_⟩]
  ·rcases Zf.mp ((h z).mp (.tail _ hz)) with q | q
   ·subst q;exact (zll _ _ (a1 z hz) (a1 z hz)).elim
   ·exact q
  ·rcases Zf.mp ((h z).mpr (.tail _ hz)) with q | q
   ·subst q;exact (zll _ _ (b1 z hz) (b1 z hz)).elim
   ·exact q
def keyD:D->Option (List Int)
 | .tup [.int a,.int b]=>some [a,b]
 | _=>none
def zlo:List D->Option (List (List Int))
 | []=>some []
 | d::l=>(keyD d).bind fun k=>(zlo l).map fun ks=>k::ks
def dK (k:List Int):D:=.tup (k.map D.int)
theorem zxw {d:D} {k:List Int} (h:keyD d=some k):∃ a b,d=.tup [.int a,.int b]/\k=[a,b]:=by
 unfold keyD at h;split at h
 ·cases h;exact⟨_,_,rfl,rfl⟩
 ·cases h
theorem yae {σ:List (List Int×Addr)} {k:List Int} {b:Addr} {x:List Int}:x∈(addK σ k b).map (·.1)↔x=k\/x∈σ.map (·.1):=by
 unfold addK;split
 ·rename_i h;constructor
  ·exact .inr
  ·rintro (e | e)
   ·rw [e];exact h
   ·exact e
 ·rw [Ys,Y6];constructor
  ·rintro (e | e)
   ·exact .inr e
   ·exact .inl (by simpa using e)
  ·rintro (e | e)
   ·exact .inr (by simpa using e)
   ·exact .inl e
theorem zpu {x:List Int} (xs:List (List Int×Addr)):x∈(zcl xs).map (·.1)↔x∈xs.map (·.1):=by
 have:∀ (ys σ:List (List Int×Addr)),x∈(ys.foldl (fun σ x=>addK σ x.1 x.2) σ).map (·.1)↔x∈σ.map (·.1)\/x∈ys.map (·.1):=by
  intro ys;induction ys with
  | nil=>intro σ;simp
  | cons y ys ih=>
   intro σ;rw [Vq,ih,yae,Zz,Zf];constructor
   ·rintro ((h | h) | h)
    ·exact .inr (.inl h)
    ·exact .inl h
    ·exact .inr (.inr h)
   ·rintro (h | h | h)
    ·exact .inl (.inr h)
    ·exact .inl (.inl h)
    ·exact .inr h
 unfold zcl;rw [this];simp
section
variable {X:Cx} {e:Expr} {es:List Expr} {ρ:Rho} {pos:Pos} {w:W}
theorem zsm {K:PySem.W.Frag} {F:Hp}:∀ {l:List D} {xs:List V} {ks:List (List Int)},DenL K F l xs->zlo l=some ks->∃ zs:List (List Int×Addr),xs=zs.map (fun z=>V.ref z.2)/\zs.map (·.1)=ks/\∀ z∈zs,SqT K F z.2 (z.1.map V.int)/\isPr z.1=true
 | [],_,_,h,e=>by
  cases e;exact⟨[],h.inv_nil,rfl,fun z hz=>by cases hz⟩
 | d::l,_,_,h,e=>by
  unfold zlo at e;refine xa (Za.mp e) fun k e1 e2=>?_;refine xa (Zb.mp e2) fun ks e3 e4=>?_;subst e4;refine xj (zxw e1) fun a b ed ek=>?_;refine xc h.inv_cons fun v vs ev q r=>?_;refine xh (zsm r e3) fun zs h1 h2 h3=>?_;rw [ed] at q;refine xc q.tup fun t ys et sq qs=>?_;refine xc qs.two fun u1 u2 eu q1 q2=>?_;rw [eu,q1.int,q2.int] at sq;refine⟨(k,t)::zs,by rw [ev,et,h1];rfl,by rw [<- h2];rfl,fun z hz=>?_⟩
  rcases Zf.mp hz with e | hz
  ·subst e;rw [ek];exact⟨sq,rfl⟩
  ·exact h3 z hz
theorem zmn:∀ {zs:List (List Int×Addr)} {us:List Value},Vals (zs.map fun z=>V.ref z.2) us->us=zs.map fun z=>Value.ref z.2
 | [],_,h=>by cases h;rfl
 | z::zs,_,h=>by
  cases h with
  | cons h1 h2=>rw [show _=Value.ref z.2 from h1,zmn h2];rfl
theorem zuu:∀ (zs:List (List Int×Addr)),Vals (zs.map fun z=>V.ref z.2) (zs.map fun z=>Value.ref z.2)
 | []=>.nil
 | z::zs=>.cons rfl (zuu zs)
theorem zqm {prog:Program} {w:World}:∀ {k:List Int} {us:List Value},Vals (k.map V.int) us->ItemsAre (intKind prog w) k us
 | [],_,h=>by cases h;exact .nil
 | i::k,_,h=>by
  cases h with
  | cons h1 h2=>
   refine xb h1 fun t e=>?_;clear h1
   subst e;exact .cons (by show Value.isInt i (.int i t)=true;simp [Value.isInt]) (zqm h2)
theorem Inv.tk {pins σ H s} {z:List Int×Addr} (I:Inv X pins σ H s) (h:SqT X.K H z.2 (z.1.map V.int)):IsTK X.prog X.w s.heap z.1 z.2:=by
 obtain⟨its,r,⟨o,ho,hc,n,hd⟩,_⟩:=I.tuple h
 exact⟨o,its.toArray,n,ho,hc,hd,zqm r⟩
theorem ylb {pins s σ H} {a:Addr} {zs:List (List Int×Addr)} {Q:VK} (hX:X.calm=true) (hu:X.A.units+16<cLine) (I:Inv X pins σ H s) (hl:SqL X.K H a (zs.map fun z=>V.ref z.2)) (hz:∀ z∈zs,SqT X.K H z.2 (z.1.map V.int)/\isPr z.1=true) (hn:zs.length<=63)
  (h:∀ (ys:List (List Int×Addr)) p,(∀ y∈ys,y∈zs)->ys.map (·.1)=ssK (zs.map (·.1))->H p=none->Q (.ref p) (upd H p (.lst (ys.map fun z=>V.ref z.2)))) :
  wpAny (model X.prog X.w) X.A (call (.type "set") [.ref a]) (fun m s1=>wpAny (model X.prog X.w) X.A (call (.builtin "sorted") [m]) (EP X pins σ Q) X.xe s1) X.xe s:=by
 refine xh (I.list hl) fun its r pl _=>?_;have e:=zmn r;subst e;refine zyy (I.ok.hd hX) hu pl.isList (by simp) (fun x hx=>Inv.tk I (hz x hx).1) (by omega) fun h' tk S keep=>?_;have len:(zcl zs).length<64:=by have:=zkf zs;omega
 refine ztj (I.ok.hd hX) S (fun x hx=>(hz x (zee hx)).2) len fun h2 tk2 D ys n hp hw hg hD kp=>?_;have mem:∀ y∈ys,y∈zs:=fun y hy=>zee (hp.mem_iff.mp hy)
 have keys:ys.map (·.1)=ssK (zs.map (·.1)):=by
  refine yfe (W4.mpr hw) (zpc fun x hx=>?_) fun x=>?_
  ·refine xa (Z1.mp hx) fun z q e=>?_;rw [<- e];exact (hz z q).2
  ·rw [ssK_mem];exact ((hp.map _).mem_iff).trans (zpu zs)
 have hle:s.heap.objs.size<=D:=by
  have h1:s.heap.objs.size<h'.objs.size:=S.lt;have h2:h'.objs.size<=D:=hD;exact Yn (Q8 h1) h2
 refine⟨.ref D,_,I.laid (t':=tk2) (fun b u q=>kp b u (keep b u q)) hle (show ObjOk X.prog X.w _ h2 D (.lst (ys.map fun z=>V.ref z.2)) from⟨?_,ys.map (fun z=>Value.ref z.2),n,zuu ys,hg⟩),rfl,h ys D mem keys (I.hok.fresh hle)⟩
 rw [Zd,hp.length_eq,Qp];omega
end
end DL
namespace DL
open PySem L2 PyProof.Rows
theorem ztu:typeLookup (.type "list_reverseiterator") "__len__" = pure none:=by rw [Kj,Qh];kernel_rfl
theorem ycb:typeLookup (.type "list_reverseiterator") "__length_hint__" = pure (some (.builtin "list_reverseiterator.__length_hint__")):=by rw [Kj,Qh];kernel_rfl
section
variable {prog:Program} {w:World} {A:Around} {E:Value->Shared->Prop} {s:Shared}
theorem ydj {I l:Addr} {i:Int} {Q:Bool->Shared->Prop} (h:s.heap.IsRevIter I l i) (hQ:Q false s):wpAny (model prog w) A (Builtin.List.listLengthHint (.ref I)) Q E s:=by
 have hT:=h.typeIs;unfold Builtin.List.listLengthHint;refine Zc (Qy hT ztu ?_);show wpAny _ A (specialOf (Value.ref I) (Str.ofString "__length_hint__") >>= _) _ _ _;refine Zc (Qy hT ycb ?_);generalize hid:("list_reverseiterator.__length_hint__" : String)=id0;wp_delta
 rw [show splitId id0=some ("list_reverseiterator", "__length_hint__") from by subst hid;decide +kernel];subst hid;refine Zc (Uj (b:=true) hT (by rw [U7];kernel_rfl) ?_);exact Zi hQ
theorem zua {R:Result->Shared->Prop} {S I l:Addr} {items:Array Value} (res:Value) (c₀:Nat) (hh:A.handled=none) (hz:items.size<=sizeLine) (hi:s.heap.IsRevIter I l ((items.size:Int)-1)) (hl:s.heap.IsList l items) (hlI:l≠I) (hSI:S≠I) (hSl:S≠l) (hS:s.heap.get? S=some {cls:=.type "list", data:=.seq #[] c₀})
  (hR:∀ h' tk c',(∀ b o,b≠S->b≠I->s.heap.get? b=some o->h'.get? b=some o)->h'.get? S=some {cls:=.type "list", dict:=none,data:=.seq items.reverse c',slots:=#[]}->R (.ok (.ret res)) {s with heap:=h',toks:=tk}) :
  wpAny (model prog w) A.in1 (Builtin.List.listExtendWith (.ref S) (.ref I) res)
   (fun fin s'=>match fin with | .done f=>R (.ok f) s' | .again c'=>c'.quiet=true/\codeAny (model prog w) A c' R s') (fun e s'=>R (.error e) s') s:=by
 unfold Builtin.List.listExtendWith;refine Zc (Ut hi.typeIs ?_);have h1:Builtin.List.listSameRef (.ref S) (.ref I)=false:=by simp [Builtin.List.listSameRef,hSI]
 rw [if_neg (by rw [h1];decide)];refine Zc (wpAny_pyIter_revIter hi ?_);refine Zc (Yq (ydj hi ?_));show wpAny _ A.in1 (again (.builtin "list.extend.loop" ⟨[.ref S,.ref I,res],[]⟩)) _ _ _;have W:=(Walks.listRev (prog:=prog) (w:=w) (A:=A.in1) (by simp [hh]) I l hlI items).toS;refine Zi ⟨Q4 Wu _,codeAny_extend_loopS W hz S (by simp [hSI,hSl]) res items.size 0 _ _ _ rfl (Yc _) ⟨Yc _,by simpa using hi,hl⟩ hS (ItemsOf.nil _) fun s' acc' c' hm hS' hacc=>?_⟩;obtain⟨h',g',d',tk',os'⟩:=s'
 have eg:g'=s.gens:=hm.gens;have ed:d'=s.drawn:=hm.drawn;have eo:os'=s.os:=hm.os;subst eg;subst ed;subst eo;have ea:acc'=items.reverse:=by
  refine Array.ext_getElem? fun j=>?_;cases z:acc'[j]? with
  | none=>
   have h1:acc'.size<=j:=by simpa using z
   rw [hacc.1] at h1;symm
   simpa using h1
  | some v=>
   have h1:j<acc'.size:=by
    refine xb (Y3.mp z) fun q _=>?_;exact q
   rw [hacc.1] at h1;have:=hacc.2 j v z
   rw [Array.getElem?_reverse h1];exact this.symm
 subst ea;exact hR h' tk' c' (fun b o h1 h2 e=>hm.heap b o (by simp [h1,h2]) e) hS'
theorem zmc {I l:Addr} {items:Array Value} {Q:Value->Shared->Prop} (hh:A.handled=none) (hz:items.size<=sizeLine) (hi:s.heap.IsRevIter I l ((items.size:Int)-1)) (hl:s.heap.IsList l items) (hlI:l≠I)
  (hQ:∀ h' tk c',(∀ b o,b≠I->s.heap.get? b=some o->h'.get? b=some o)->h'.get? s.heap.objs.size=some {cls:=.type "list", dict:=none,data:=.seq items.reverse c',slots:=#[]}->Q (.ref s.heap.objs.size) {s with heap:=h',toks:=tk}) :
  wpAny (model prog w) A (call (.type "list") [.ref I]) Q E s:=by
 have lI:I<s.heap.objs.size:=by refine xa hi fun o ho _=>?_;clear hi;exact Zp ho
 have ll:l<s.heap.objs.size:=by refine xa hl fun o ho _=>?_;clear hl;exact Zp ho
 refine callType_codes (Q₁:=fun obj s₁=>obj=.ref s.heap.objs.size/\s₁={s with heap:=s.heap.push {cls:=.type "list", data:=.seq #[]} }) F.called_list (F.typeCall_list_1 _) F.entry_list_init
  (code_list_new _ ⟨rfl,rfl⟩) fun obj s₁ h₁=>?_
 refine xg h₁ fun qz0 qz1=>?_;clear h₁;subst qz0;subst qz1
 have hS:(s.heap.push {cls:=.type "list", data:=.seq #[]}).get? s.heap.objs.size=some {cls:=.type "list", data:=.seq #[]}:=Z8 _ rfl;refine⟨⟨_,hS,rfl⟩,F.args_list_init_2 _ _,?_⟩
 show wpAny _ A.in1.in1 (do let old <- Builtin.List.listItems (.ref s.heap.objs.size);Builtin.List.listUpdate (.ref s.heap.objs.size) (fun _=>#[]);letGo old.toList.reverse;Builtin.List.listExtendWith (.ref s.heap.objs.size) (.ref I) .none) _ _ _;refine Zc (Bl hS rfl ?_);refine Zc (J3 hS rfl ?_ (Yc _) (Yc _));have hS₂:=Yk (Obj.mapSeq (fun _=>(#[]:Array Value))) hS rfl;have oth:∀ b o,b≠s.heap.objs.size->s.heap.get? b=some o->((s.heap.push {cls:=.type "list", data:=.seq #[]}).update s.heap.objs.size (Obj.mapSeq (fun _=>(#[]:Array Value)))).get? b=some o:=
  fun b o hb e=>(Yu _ _ (Wk hb)).trans (Zh _ e)
 refine Zc (wpAny_letGo ?_);refine zua .none _ (by simp [hh]) hz (hi.at fun o e=>oth I o (Z3 lI) e) (hl.at fun o e=>oth l o (Z3 ll) e) hlI (Ya lI) (Ya ll) hS₂ fun h' tk c' kp e=>?_;exact⟨rfl,hQ h' tk c' (fun b o hb e=>kp b o (Z3 (Zp e)) hb (oth b o (Z3 (Zp e)) e)) e⟩
end
section
variable {X:Cx} {e:Expr} {es:List Expr} {ρ:Rho} {pos:Pos} {w:W}
theorem ycj {x y:Str} {p p2 q2:Pos} {f g:String} {t:TA} {r:List V->Hp->VK->Prop} (hc:∀ pins s σ H vs us Q,Inv X pins σ H s->Vals vs us->r vs H Q->wpAny (model X.prog X.w) X.A (call (.type g) us) (fun m s1=>wpAny (model X.prog X.w) X.A (call (.type f) [m]) (EP X pins σ Q) X.xe s1) X.xe s)
  (hg:Gl X x) (hm:X.mg x=none) (hv:bootBuiltins x=some (.type f)) (hn:x ≠ "__name__") (hdb:(x == ("__debug__" : Str))=false) (hg2:Gl X y) (hm2:X.mg y=none) (hv2:bootBuiltins y=some (.type g)) (hn2:y ≠ "__name__") (hdb2:(y == ("__debug__" : Str))=false) (ha:PA X (e::es) t) (hs:By e=true) (hss:es.all By=true) :
  PE X (.Call (.Name x p) [.Call (.Name y p2) (e::es) [] q2] [] pos) (fun σ H Q=>t σ H fun vs H1=>r vs H1 Q):=by
 intro pins s σ H Q I h;refine Qg (zfe I hg hm hv ?_ hn hdb);refine Wl ?_;show wpAny _ _ (spliced ((false,eval (.Call (.Name y p2) (e::es) [] q2) X.env)::backTo pos (starEach [] X.env))) _ _ s;refine Uy ?_;refine Qg (zfe I hg2 hm2 hv2 ?_ hn2 hdb2);refine Wl (thn (ha q2 pins s σ H _ I h) fun us s1 hz=>xc hz fun vs H1 I1 r1 q1=>?_) (B6 hs) (zcx hss);exact thn (hc pins s1 σ H1 vs us Q I1 r1 q1) fun m s2 hm=>U5 hm
theorem yck {x y:Str} {p p2 q2:Pos} {f g:String} {t:TA} {r:List V->Hp->VK->Prop} (hc:∀ pins s σ H vs us Q,Inv X pins σ H s->Vals vs us->r vs H Q->wpAny (model X.prog X.w) X.A (call (.type g) us) (fun m s1=>wpAny (model X.prog X.w) X.A (call (.builtin f) [m]) (EP X pins σ Q) X.xe s1) X.xe s)
  (hg:Gl X x) (hm:X.mg x=none) (hv:bootBuiltins x=some (.builtin f)) (hn:x ≠ "__name__") (hdb:(x == ("__debug__" : Str))=false) (hg2:Gl X y) (hm2:X.mg y=none) (hv2:bootBuiltins y=some (.type g)) (hn2:y ≠ "__name__") (hdb2:(y == ("__debug__" : Str))=false) (ha:PA X (e::es) t) (hs:By e=true) (hss:es.all By=true) :
  PE X (.Call (.Name x p) [.Call (.Name y p2) (e::es) [] q2] [] pos) (fun σ H Q=>t σ H fun vs H1=>r vs H1 Q):=by
 intro pins s σ H Q I h;refine Qg (zfe I hg hm hv ?_ hn hdb);refine Ue ?_;show wpAny _ _ (spliced ((false,eval (.Call (.Name y p2) (e::es) [] q2) X.env)::backTo pos (starEach [] X.env))) _ _ s;refine Uy ?_;refine Qg (zfe I hg2 hm2 hv2 ?_ hn2 hdb2);refine Wl (thn (ha q2 pins s σ H _ I h) fun us s1 hz=>xc hz fun vs H1 I1 r1 q1=>?_) (B6 hs) (zcx hss);exact thn (hc pins s1 σ H1 vs us Q I1 r1 q1) fun m s2 hm=>U5 hm
def zou (X:Cx) (f g:Value) (ds:List D) (w:W):Prop:=∃ r:List V->Hp->VK->Prop,(∀ pins s σ H vs us Q,Inv X pins σ H s->Vals vs us->r vs H Q->wpAny (model X.prog X.w) X.A (call g us) (fun m s1=>wpAny (model X.prog X.w) X.A (call f [m]) (EP X pins σ Q) X.xe s1) X.xe s) /\
 ∀ (H0 Fc H F:Hp) (σ:L2.St) (ρ:Rho) (vs:List V) (Q:VK),ER X.K H0 Fc F H σ ρ->DenL X.K F ds vs->(∀ v' H' F',Same F F'->ER X.K H0 Fc F' H' σ ρ->RW X.K H0 F' H' w v'->Q v' H')->r vs H Q
theorem DE.nestT {x y:Str} {p p2 q2:Pos} {f g:String} {ds:List D} (hc:zou X (.type f) (.type g) ds w) (hg:Gl X x) (hm:X.mg x=none) (hv:bootBuiltins x=some (.type f)) (hn:x ≠ "__name__") (hdb:(x == ("__debug__" : Str))=false) (hg2:Gl X y) (hm2:X.mg y=none) (hv2:bootBuiltins y=some (.type g)) (hn2:y ≠ "__name__") (hdb2:(y == ("__debug__" : Str))=false)
  (ha:DA X (e::es) ρ ds) (hs:By e=true) (hss:es.all By=true):DE X (.Call (.Name x p) [.Call (.Name y p2) (e::es) [] q2] [] pos) ρ w:=fun H0 Fc=>by
 refine xa hc fun r hr hq=>?_;clear hc
 refine PE.mono (ycj hr hg hm hv hn hdb hg2 hm2 hv2 hn2 hdb2 (ha H0 Fc) hs hss) fun σ H Q hz=>xa hz fun F R k=>⟨F,R,fun vs H1 F1 s1 R1 q1=>?_⟩
 exact hq H0 Fc H1 F1 σ ρ vs Q R1 q1 fun v' H' F' s' R' q'=>k v' H' F' (s1.trans s') R' q'
theorem DE.nestB {x y:Str} {p p2 q2:Pos} {f g:String} {ds:List D} (hc:zou X (.builtin f) (.type g) ds w) (hg:Gl X x) (hm:X.mg x=none) (hv:bootBuiltins x=some (.builtin f)) (hn:x ≠ "__name__") (hdb:(x == ("__debug__" : Str))=false) (hg2:Gl X y) (hm2:X.mg y=none) (hv2:bootBuiltins y=some (.type g)) (hn2:y ≠ "__name__") (hdb2:(y == ("__debug__" : Str))=false)
  (ha:DA X (e::es) ρ ds) (hs:By e=true) (hss:es.all By=true):DE X (.Call (.Name x p) [.Call (.Name y p2) (e::es) [] q2] [] pos) ρ w:=fun H0 Fc=>by
 refine xa hc fun r hr hq=>?_;clear hc
 refine PE.mono (yck hr hg hm hv hn hdb hg2 hm2 hv2 hn2 hdb2 (ha H0 Fc) hs hss) fun σ H Q hz=>xa hz fun F R k=>⟨F,R,fun vs H1 F1 s1 R1 q1=>?_⟩
 exact hq H0 Fc H1 F1 σ ρ vs Q R1 q1 fun v' H' F' s' R' q'=>k v' H' F' (s1.trans s') R' q'
theorem zqk:∀ {xs:List V} {us:List Value},Vals xs us->Vals xs.reverse us.reverse
 | [],_,h=>by cases h;exact .nil
 | x::xs,_,h=>by
  cases h with
  | cons h1 h2=>
   rw [We,We];exact (zqk h2).append (.cons h1 .nil)
theorem DenL.rev {K:PySem.W.Frag} {F:Hp}:∀ {l:List D} {xs:List V},DenL K F l xs->DenL K F l.reverse xs.reverse
 | [],_,h=>by rw [h.inv_nil];exact DenL.nil
 | d::l,_,h=>by
  refine xc h.inv_cons fun v vs e q r=>?_;subst e;rw [We,We];exact (DenL.rev r).append (DenL.cons q DenL.nil)
theorem ycr {l:List D} (hX:X.calm=true):zou X (.type "list") (.type "reversed") [.lst l] (.new l.reverse):=by
 refine⟨fun vs H Q=>∃ a xs,vs=[.ref a]/\SqL X.K H a xs/\∀ p,H p=none->Q (.ref p) (upd H p (.lst xs.reverse)),fun pins s σ H vs us Q I r h=>?_,fun H0 Fc H F σ ρ vs Q R q k=>?_⟩
 ·refine xc h fun a xs qz2 hl hq=>?_;clear h;subst qz2
  refine xa (zsx r) fun u qz1 rx=>?_;subst qz1
  cases rx;refine xh (I.list hl) fun its r pl hz=>?_;have hlen:=r.length;have hla:a<s.heap.objs.size:=by refine xa pl.isList fun o ho _=>?_;exact Zp ho
  refine call_reversed_list pl.isList ?_;have hi:(s.heap.push (revObj a ((its.toArray.size:Int)-1))).IsRevIter s.heap.objs.size a ((its.toArray.size:Int)-1):=⟨_,Z8 _ rfl,rfl,rfl⟩;refine zmc (I.ok.hd hX) (by simp only [Zv];omega) hi (pl.isList.push _) (Z3 hla) fun h' tk c' kp e=>?_;have hsz:(s.heap.push (revObj a ((its.toArray.size:Int)-1))).objs.size=s.heap.objs.size+1:=Je ..;have hle:s.heap.objs.size<=(s.heap.push (revObj a ((its.toArray.size:Int)-1))).objs.size:=by rw [hsz];exact Jq _
  refine⟨.ref _,_,I.laid (t':=tk) (fun b u q=>kp b u (Z3 (Zp q)) (Zh _ q)) hle (show ObjOk X.prog X.w _ h' _ (.lst xs.reverse) from⟨by rw [Y4];exact hz,its.reverse,c',zqk r,?_⟩),rfl,hq _ (I.hok.fresh hle)⟩
  have ee:its.toArray.reverse=its.reverse.toArray:=by simp
  rw [<- ee];exact e
 ·refine xa q.one fun v e q=>?_;refine xc q.lst fun p xs e1 sq r=>?_;rw [e1] at e;refine⟨p,xs,e,R.sub.seq sq,fun p2 hp=>?_⟩
  refine xi (R.put (.lst xs.reverse) hp) fun R4 hF h0=>?_;exact k _ _ _ (Same.refl _) R4 (RW.n hF h0 B5 (DenL.rev r))
theorem yji {l:List D} {ks:List (List Int)} (hX:X.calm=true) (hu:X.A.units+16<cLine) (hk:zlo l=some ks) (hn:ks.length<=63):zou X (.builtin "sorted") (.type "set") [.lst l] (.new ((ssK ks).map dK)):=by
 refine⟨fun vs H Q=>∃ (a:Addr) (zs:List (List Int×Addr)),vs=[.ref a]/\SqL X.K H a (zs.map fun z=>V.ref z.2)/\(∀ z∈zs,SqT X.K H z.2 (z.1.map V.int)/\isPr z.1=true)/\zs.length<=63 /\
   ∀ (ys:List (List Int×Addr)) p,(∀ y∈ys,y∈zs)->ys.map (·.1)=ssK (zs.map (·.1))->H p=none->Q (.ref p) (upd H p (.lst (ys.map fun z=>V.ref z.2))),fun pins s σ H vs us Q I r h=>?_,fun H0 Fc H F σ ρ vs Q R q k=>?_⟩
 ·refine xm h fun a zs qz2 q1 q2 q3 q4=>?_;clear h;subst qz2
  refine xa (zsx r) fun u qz1 rx=>?_;subst qz1
  cases rx;exact ylb hX hu I q1 q2 q3 q4
 ·refine xa q.one fun v e q=>?_;refine xc q.lst fun a xs e1 sq r=>?_;rw [e1] at e;refine xh (zsm r hk) fun zs h1 h2 h3=>?_;subst h1;subst h2;refine⟨a,zs,e,R.sub.seq sq,fun z hz=>⟨Same.tup R.sub (h3 z hz).1,(h3 z hz).2⟩,by simpa using hn,fun ys p mem keys hp=>?_⟩
  refine xi (R.put (.lst (ys.map fun z=>V.ref z.2)) hp) fun R4 hF h0=>?_;refine k _ _ _ (Same.refl _) R4 (RW.n hF h0 B5 ?_);rw [<- keys,Wv];clear keys hp R4 hF h0 k;induction ys with
  | nil=>exact DenL.nil
  | cons y ys ih=>exact DenL.cons (Den.tup_mk (h3 y (mem y (.head _))).1 (DenL.ints _)) (ih fun z hz=>mem z (.tail _ hz))
theorem zzc {l:List D}:zjh X (.type "tuple") [.lst l] (.val (.tup l)):=⟨_,zma,fun H0 Fc H F σ ρ vs Q R q k=>by
 refine xa q.one fun v e q=>?_;refine xc q.lst fun p xs e1 sq r=>?_;rw [e1] at e;refine⟨p,xs,e,.inl ⟨R.sub.seq sq,fun p2 hp=>?_⟩⟩
 refine xg (R.lay (.tup xs) hp) fun R2 s2=>?_;exact k _ _ _ s2 R2 (RW.v (Den.tup_mk (SqT.of B5) (r.mono s2)))⟩
end
end DL
namespace DL
open PySem L2 PyProof.Rows
section
variable {prog:Program} {w:World} {A:Around} {E:Value->Shared->Prop} {s:Shared}
abbrev IsZ2 (h:Heap) (z TI TO T:Addr) (f1:Bool):Prop:=
 h.get? z=some {cls:=.type "zip", dict:=none,data:=.fields #[rawInt T,.bool f1,.bool false,.ref TI,.ref TO],slots:=#[]}
theorem ydf {a:Addr} {Q:Option Obj->Shared->Prop} (h:Q (s.heap.get? a) s):wpAny (model prog w) A (loadIfAlive a) Q E s:=fun _ _ _=>h
theorem zrk {z TI TO T:Addr} {f1:Bool} {Q:Bool->Shared->Prop} (hz:IsZ2 s.heap z TI TO T f1) (hT:∃ o,s.heap.get? T=some o) (h:∀ h',IsZ2 h' z TI TO T true->Heap.SameBut z s.heap h'->Q false {s with heap:=h'}) :
  wpAny (model prog w) A (Builtin.SmallTypes.ownedTupleIsFree (.ref z)) Q E s:=by
 refine xb hT fun o ho=>?_;clear hT
 unfold Builtin.SmallTypes.ownedTupleIsFree;refine Zc (J2 hz rfl (x:=rawInt T) rfl ?_);show wpAny _ _ (loadIfAlive ((T:Int)).toNat >>= _) _ _ _;rw [Kk];refine Zc (ydf ?_);rw [ho];simp only [Option.isNone_some,Z0,if_false];refine Zc (J2 hz rfl (x:=.bool f1) rfl ?_);cases f1 with
 | true=>
  exact Zc (Zi (Zi (h _ hz ⟨rfl,fun _ _=>rfl⟩)))
 | false=>
  refine Zc (wpAny_setField_rec hz (by simp) fun h₁ hz₁ hs₁=>?_);exact Zi (h _ hz₁ hs₁)
structure ZA (z TI i1 i2 l1 l2:Addr):Prop where
 TIz:TI≠z
 i1z:i1≠z
 i2z:i2≠z
 TIi1:TI≠i1
 TIi2:TI≠i2
 i12:i1≠i2
 l1z:l1≠z
 l1i1:l1≠i1
 l1i2:l1≠i2
 l2z:l2≠z
 l2i1:l2≠i1
 l2i2:l2≠i2
theorem zum {z TI TO T i1 i2 l1 l2:Addr} {f1:Bool} {k1 k2:Nat} {xs ys:Array Value} {x y:Value} {Q:Option Value->Shared->Prop} (D:ZA z TI i1 i2 l1 l2) (hz:IsZ2 s.heap z TI TO T f1) (hT:∃ o,s.heap.get? T=some o) (hTI:IsPair s.heap TI (.ref i1) (.ref i2))
  (h1:s.heap.IsListIter i1 l1 k1) (h2:s.heap.IsListIter i2 l2 k2) (hl1:s.heap.IsList l1 xs) (hl2:s.heap.IsList l2 ys) (hx:xs[k1]? = some x) (hy:ys[k2]? = some y)
  (hQ:∀ h',IsZ2 h' z TI TO T true->h'.IsListIter i1 l1 (k1+1)->h'.IsListIter i2 l2 (k2+1)->IsPair h' s.heap.objs.size x y->h'.objs.size=s.heap.objs.size+1 ->
   (∀ c o,c≠z->c≠i1->c≠i2->s.heap.get? c=some o->h'.get? c=some o)->Q (some (.ref s.heap.objs.size)) {s with heap:=h'}) :
  wpAny (model prog w) A (pyNext (.ref z)) Q E s:=by
 have hTy:s.TypeIs (.ref z) "zip" := ⟨_,hz,rfl⟩;unfold pyNext;refine Zc (Vh (wpAny_callSpecial?_slot (name:=Str.ofString "__next__") hTy Ur (Qr Ur hTy F.entry_zip_next ?_ (F.args_zip_next_1 _))));show wpAny _ _ (field (.ref z) 2 >>= _) _ _ _;refine Zc (J2 hz rfl (x:=.bool false) rfl ?_);show wpAny _ _ (field (.ref z) 3 >>= _) _ _ _;refine Zc (J2 hz rfl (x:=.ref TI) rfl ?_);refine Zc (U6 hTI rfl ?_);show wpAny _ _ (Builtin.SmallTypes.ownedTupleIsFree (.ref z) >>= _) _ _ _;refine Zc (zrk hz hT fun h₁ hz₁ hs₁=>?_);simp only [Z0,if_false];refine Zc ?_;rw [<- Kz];simp only [Vp,List.forIn_nil];refine Zc (Zc (Yq ?_));show wpAny _ _ (Builtin.SmallTypes.nextOf (.ref i1) >>= _) _ _ _;refine Zc (G7 (h1.extBut hs₁.extBut D.i1z) (hl1.extBut hs₁.extBut D.l1z) hx fun h₂ h1₂ hs₂=>Zi (Zi ?_));refine Zc (Zc (Yq ?_));show wpAny _ _ (Builtin.SmallTypes.nextOf (.ref i2) >>= _) _ _ _;refine Zc (G7 ((h2.extBut hs₁.extBut D.i2z).extBut hs₂.extBut D.i12.symm) ((hl2.extBut hs₁.extBut D.l2z).extBut hs₂.extBut D.l2i1) hy fun h₃ h2₃ hs₃=>Zi (Zi (Zi ?_)));refine Zc (wpAny_newTuple ?_ (by show 2<=sizeLine;decide));have hsz:h₃.objs.size=s.heap.objs.size:=by rw [hs₃.1,hs₂.1,hs₁.1]
 have kp:∀ c o,c≠z->c≠i1->c≠i2->s.heap.get? c=some o->h₃.get? c=some o:=fun c o c1 c2 c3 e=>hs₃.extBut _ _ c3 (hs₂.extBut _ _ c2 (hs₁.extBut _ _ c1 e))
 have hz₃:IsZ2 h₃ z TI TO T true:=hs₃.extBut _ _ D.i2z.symm (hs₂.extBut _ _ D.i1z.symm hz₁);have h1₃:=h1₂.extBut hs₃.extBut D.i12;refine Zi ⟨_,rfl,Zi ?_⟩;show Q (some (.ref h₃.objs.size)) _;have g:(h₃.push {cls:=.type "tuple", data:=.seq #[x,y]}).get? h₃.objs.size=some {cls:=.type "tuple", data:=.seq #[x,y]}:=Z8 _ rfl;have z8:(h₃.push {cls:=.type "tuple", data:=.seq #[x,y]}).objs.size=h₃.objs.size+1:=Je ..;rw [hsz] at g z8 |-;exact hQ _ (Zh _ hz₃) (h1₃.at fun o e=>Zh _ e) (h2₃.at fun o e=>Zh _ e) g z8 fun c o c1 c2 c3 e=>Zh _ (kp c o c1 c2 c3 e)
theorem yaj {z TI TO T i1 i2 l1 l2:Addr} {f1:Bool} {k1 k2:Nat} {xs ys:Array Value} {Q:Option Value->Shared->Prop} (hh:A.handled=none) (D:ZA z TI i1 i2 l1 l2) (hz:IsZ2 s.heap z TI TO T f1) (hT:∃ o,s.heap.get? T=some o) (hTI:IsPair s.heap TI (.ref i1) (.ref i2))
  (h1:s.heap.IsListIter i1 l1 k1) (h2:s.heap.IsListIter i2 l2 k2) (hl1:s.heap.IsList l1 xs) (hl2:s.heap.IsList l2 ys) (hx:xs[k1]? = none)
  (hQ:∀ h',(∀ c o,c≠z->c≠i1->c≠i2->s.heap.get? c=some o->h'.get? c=some o)->Q none {s with heap:=h'}):wpAny (model prog w) A (pyNext (.ref z)) Q E s:=by
 have hTy:s.TypeIs (.ref z) "zip" := ⟨_,hz,rfl⟩;unfold pyNext;refine Zc (Vh (wpAny_callSpecial?_slot (name:=Str.ofString "__next__") hTy Ur (Qr Ur hTy F.entry_zip_next ?_ (F.args_zip_next_1 _))));show wpAny _ _ (field (.ref z) 2 >>= _) _ _ _;refine Zc (J2 hz rfl (x:=.bool false) rfl ?_);show wpAny _ _ (field (.ref z) 3 >>= _) _ _ _;refine Zc (J2 hz rfl (x:=.ref TI) rfl ?_);refine Zc (U6 hTI rfl ?_);show wpAny _ _ (Builtin.SmallTypes.ownedTupleIsFree (.ref z) >>= _) _ _ _;refine Zc (zrk hz hT fun h₁ hz₁ hs₁=>?_);simp only [Z0,if_false];refine Zc ?_;rw [<- Kz];simp only [Vp,List.forIn_nil];refine Zc (Zc (Yq ?_));show wpAny _ _ (Builtin.SmallTypes.nextOf (.ref i1) >>= _) _ _ _;refine Zc (wpAny_nextOf_list_end (by first | exact hh | simp [hh]) (h1.extBut hs₁.extBut D.i1z) (hl1.extBut hs₁.extBut D.l1z) hx fun h₂ e hs₂ he=>?_);refine xa he fun o ho hc=>?_;clear he
 refine Zc (Uj (T := "StopIteration") (b:=true) ⟨o,ho,hc⟩ isSubtype_stop ?_);exact Zi (hQ _ fun c o c1 c2 c3 e=>hs₂ _ _ c2 (hs₁.extBut _ _ c1 e))
def zqe (h:Heap) (xs ys:Array Value) (ts:List Addr):Prop:=∀ (j:Nat) (t:Addr),ts[j]? = some t->∃ x y,xs[j]? = some x/\ys[j]? = some y/\IsPair h t x y
theorem yai {R:Result->Shared->Prop} {S z TI TO i1 i2 l1 l2:Addr} {xs ys:Array Value} (res:Value) (hh:A.in1.handled=none) (D:ZA z TI i1 i2 l1 l2) (hxy:xs.size=ys.size) (hz:xs.size<=sizeLine) (hS:∀ b∈[z,TI,TO,i1,i2,l1,l2],S≠b) :
  ∀ (k i:Nat) (s:Shared) (acc:Array Value) (c:Nat) (ts:List Addr) (T:Addr) (f1:Bool),xs.size-i=k->i<=xs.size->IsZ2 s.heap z TI TO T f1->T∈ts->IsPair s.heap TI (.ref i1) (.ref i2)->s.heap.IsListIter i1 l1 i->s.heap.IsListIter i2 l2 i->s.heap.IsList l1 xs->s.heap.IsList l2 ys ->
   s.heap.get? S=some {cls:=.type "list", dict:=none,data:=.seq acc c,slots:=#[]}->acc.toList=ts.map Value.ref->ts.length=i->zqe s.heap xs ys ts->(∀ t∈ts,t≠z/\t≠i1/\t≠i2/\t≠S)->ts.Nodup ->
   (∀ h' tk acc' c' ts',(∀ b o,b≠S->b≠z->b≠i1->b≠i2->s.heap.get? b=some o->h'.get? b=some o)->h'.get? S=some {cls:=.type "list", dict:=none,data:=.seq acc' c',slots:=#[]}->acc'.toList=ts'.map Value.ref->ts'.length=xs.size->zqe h' xs ys ts'->(∀ t∈ts',t∈ts\/s.heap.objs.size<=t)->ts'.Nodup->R (.ok (.ret res)) {s with heap:=h',toks:=tk}) ->
   codeAny (model prog w) A (.builtin "list.extend.loop" ⟨[.ref S,.ref z,res],[]⟩) R s:=by
 intro k;have sz:S≠z:=hS z (by simp);have s1:S≠i1:=hS i1 (by simp);have s2:S≠i2:=hS i2 (by simp);have sT:S≠TI:=hS TI (by simp);have sl1:S≠l1:=hS l1 (by simp);have sl2:S≠l2:=hS l2 (by simp);induction k with
 | zero=>
  intro i s acc c ts T f1 hk hi hZ hT hTI h1 h2 hl1 hl2 hSo hac hlen hP hts hnd hR;have e:i=xs.size:=by omega
  subst e;refine W7 U4 ?_;rw [Wn Wu _];show wpAny _ A.in1 (pyNext (.ref z) >>= _) _ _ s;have aT:∃ o,s.heap.get? T=some o:=by
   refine xb (Yg hT) fun j hj=>?_;refine xc (hP j T hj) fun x y _ _ e=>?_;exact⟨_,e⟩
  refine Zc (yaj hh D hZ aT hTI h1 h2 hl1 hl2 (by simp) fun h' kp=>?_);exact Zi (hR h' s.toks acc c ts (fun b o _ b2 b3 b4 e=>kp b o b2 b3 b4 e) (kp S _ sz s1 s2 hSo) hac hlen (fun j t e=>by
   refine xc (hP j t e) fun x y e1 e2 e3=>?_;refine xk (hts t (Zw e)) fun t1 t2 t3 _=>?_;exact⟨x,y,e1,e2,kp t _ t1 t2 t3 e3⟩) (fun t ht=>.inl ht) hnd)
 | succ k ih=>
  intro i s acc c ts T f1 hk hi hZ hT hTI h1 h2 hl1 hl2 hSo hac hlen hP hts hnd hR;have hlt:i<xs.size:=by omega
  refine W7 U4 ?_;rw [Wn Wu _];show wpAny _ A.in1 (pyNext (.ref z) >>= _) _ _ s;have aT:∃ o,s.heap.get? T=some o:=by
   refine xb (Yg hT) fun j hj=>?_;refine xc (hP j T hj) fun x y _ _ e=>?_;exact⟨_,e⟩
  have hx:xs[i]? = some (xs[i]'hlt):=Zr hlt;have hy:ys[i]? = some (ys[i]'(by omega)):=Zr (by omega);refine Zc (zum D hZ aT hTI h1 h2 hl1 hl2 hx hy fun h' a1 a2 a3 a4 a5 kp=>?_);have hS':=kp S _ sz s1 s2 hSo;have asz:acc.size=i:=by
   have:=congrArg List.length hac
   rw [Z6,Zd,hlen] at this;exact this
  have hSlt:S<s.heap.objs.size:=Zp hSo;show wpAny _ A.in1 (updateSeq S (·.push (.ref s.heap.objs.size)) >>= _) _ _ _;have up:∀ b o,b≠S->h'.get? b=some o->(h'.update S (Obj.mapSeq (·.push (.ref s.heap.objs.size)))).get? b=some o:=fun b o hb e=>(Yu _ _ (Wk hb)).trans e
  have old:∀ {b o},s.heap.get? b=some o->b≠s.heap.objs.size:=fun e=>Z3 (Zp e)
  refine Zc ?_;refine Ki hS' rfl (Zi ⟨Q4 Wu _,ih (i+1) _ (acc.push (.ref s.heap.objs.size)) _ (ts++[s.heap.objs.size]) T true (by omega) hlt (up z _ (Wk sz) a1) (W1 _ hT) (up TI _ (Wk sT) (kp TI _ D.TIz D.TIi1 D.TIi2 hTI)) (a2.at fun o e=>up i1 o (Wk s1) e) (a3.at fun o e=>up i2 o (Wk s2) e)
   (hl1.at fun o e=>up l1 o (Wk sl1) (kp l1 o D.l1z D.l1i1 D.l1i2 e)) (hl2.at fun o e=>up l2 o (Wk sl2) (kp l2 o D.l2z D.l2i1 D.l2i2 e)) (Yk _ hS' rfl) ?_ (by rw [Zs,hlen];rfl) ?_ ?_ ?_ ?_⟩) (by rw [asz];omega) (by show (acc.push _).size<=sizeLine+1;rw [Bv,asz];omega)
  ·rw [Kh,hac,Ys];rfl
  ·intro j t e;rcases Yw j ts.length with q | q
   ·rw [Z4 q] at e;refine xc (hP j t e) fun x y e1 e2 e3=>?_;refine xk (hts t (Zw e)) fun t1 t2 t3 t4=>?_;exact⟨x,y,e1,e2,up t _ t4 (kp t _ t1 t2 t3 e3)⟩
   ·rw [Zx q] at e;have e0:j-ts.length=0:=by
     cases q2:j-ts.length with
     | zero=>rfl
     | succ n=>rw [q2] at e;simp at e
    rw [e0] at e;simp at e
    subst e;have ej:j=i:=by omega
    subst ej;exact⟨_,_,hx,hy,up _ _ (Ya hSlt) a4⟩
  ·intro t ht;rcases Y6.mp ht with ht | ht
   ·exact hts t ht
   ·rw [Zu.mp ht];refine⟨(old hZ).symm,?_,?_,(Ya hSlt)⟩
    ·refine xa h1 fun _ e _=>?_;clear h1;exact (old e).symm
    ·refine xa h2 fun _ e _=>?_;clear h2;exact (old e).symm
  ·refine U9.mpr ⟨hnd,Ka _ _,fun a ha b hb e=>?_⟩;rw [Zu.mp hb] at e;refine xb (Yg ha) fun j hj=>?_;refine xc (hP j a hj) fun x y _ _ e3=>?_;exact old e3 e
  ·intro h'' tk acc' c' ts' kp2 e1 e2 e3 e4 e5 e6;have sz2:(h'.update S (Obj.mapSeq (·.push (.ref s.heap.objs.size)))).objs.size=s.heap.objs.size+1:=by rw [Kp,a5]
   refine hR h'' tk acc' c' ts' (fun b o b1 b2 b3 b4 e=>kp2 b o b1 b2 b3 b4 (up b o b1 (kp b o b2 b3 b4 e))) e1 e2 e3 e4 (fun t ht=>?_) e6;rcases e5 t ht with q | q
   ·rcases Y6.mp q with q | q
    ·exact .inl q
    ·exact .inr (by rw [Zu.mp q];exact Zg _)
   ·exact .inr (by
     have q':(h'.update S (Obj.mapSeq (·.push (.ref s.heap.objs.size)))).objs.size<=t:=q;rw [sz2] at q';exact Vc q')
theorem zsv:typeLookup (.type "zip") "__len__" = pure none:=by rw [Kj,Qh];kernel_rfl
theorem zov:typeLookup (.type "zip") "__length_hint__" = pure none:=by rw [Kj,Qh];kernel_rfl
theorem ane {a b:Nat} (h:a≠b):@Ne Addr a b:=h
theorem za_of {n l1 l2:Nat} (h1:l1<n) (h2:l2<n):ZA (n+4) (n+2) n (n+1) l1 l2:=by
 refine⟨?_,?_,?_,?_,?_,?_,?_,?_,?_,?_,?_,?_⟩ <;> exact ane (by omega)
theorem zap_of {n l1 l2:Nat} (h1:l1<n) (h2:l2<n):ZipApart (n+4) (n+2) (n+3) n (n+1) l1 l2:=by
 refine⟨?_,?_,?_,?_,?_,?_,?_,?_,?_,?_,?_,?_,?_,?_,?_,?_,?_,?_⟩ <;> exact ane (by omega)
theorem zmb {z TI TO i1 i2 l1 l2:Addr} {xs ys:Array Value} {Q:Value->Shared->Prop} (hh:A.handled=none) (D:ZA z TI i1 i2 l1 l2) (DD:ZipApart z TI TO i1 i2 l1 l2) (hxy:xs.size=ys.size) (hz:xs.size<=sizeLine)
  (hZ:IsZip s.heap z TI TO .none) (hTI:IsPair s.heap TI (.ref i1) (.ref i2)) (hTO:IsPair s.heap TO .none .none) (h1:s.heap.IsListIter i1 l1 0) (h2:s.heap.IsListIter i2 l2 0) (hl1:s.heap.IsList l1 xs) (hl2:s.heap.IsList l2 ys)
  (hQ:∀ h' tk acc c ts,(∀ b o,b≠z->b≠TO->b≠i1->b≠i2->s.heap.get? b=some o->h'.get? b=some o)->h'.get? s.heap.objs.size=some {cls:=.type "list", dict:=none,data:=.seq acc c,slots:=#[]}->acc.toList=ts.map Value.ref->ts.length=xs.size->zqe h' xs ys ts->(∀ t∈ts,s.heap.objs.size<t)->ts.Nodup->Q (.ref s.heap.objs.size) {s with heap:=h',toks:=tk}) :
  wpAny (model prog w) A (call (.type "list") [.ref z]) Q E s:=by
 have old:∀ {b o},s.heap.get? b=some o->b<s.heap.objs.size:=fun e=>Zp e
 have zl:=old hZ;have TIl:=old hTI;have TOl:=old hTO;have i1l:i1<s.heap.objs.size:=by refine xa h1 fun _ e _=>?_;clear h1;exact old e
 have i2l:i2<s.heap.objs.size:=by refine xa h2 fun _ e _=>?_;clear h2;exact old e
 have l1l:l1<s.heap.objs.size:=by refine xa hl1 fun _ e _=>?_;clear hl1;exact old e
 have l2l:l2<s.heap.objs.size:=by refine xa hl2 fun _ e _=>?_;clear hl2;exact old e
 refine callType_codes (Q₁:=fun obj s₁=>obj=.ref s.heap.objs.size/\s₁={s with heap:=s.heap.push {cls:=.type "list", data:=.seq #[]} }) F.called_list (F.typeCall_list_1 _) F.entry_list_init
  (code_list_new _ ⟨rfl,rfl⟩) fun obj s₁ h₁=>?_
 refine xg h₁ fun qz0 qz1=>?_;clear h₁;subst qz0;subst qz1
 have hS:(s.heap.push {cls:=.type "list", data:=.seq #[]}).get? s.heap.objs.size=some {cls:=.type "list", data:=.seq #[]}:=Z8 _ rfl;refine⟨⟨_,hS,rfl⟩,F.args_list_init_2 _ _,?_⟩
 show wpAny _ A.in1.in1 (do let old <- Builtin.List.listItems (.ref s.heap.objs.size);Builtin.List.listUpdate (.ref s.heap.objs.size) (fun _=>#[]);letGo old.toList.reverse;Builtin.List.listExtendWith (.ref s.heap.objs.size) (.ref z) .none) _ _ _;refine Zc (Bl hS rfl ?_);refine Zc (J3 hS rfl ?_ (Yc _) (Yc _));have hS₂:=Yk (Obj.mapSeq (fun _=>(#[]:Array Value))) hS rfl;have hsz0:((s.heap.push {cls:=.type "list", data:=.seq #[]}).update s.heap.objs.size (Obj.mapSeq (fun _=>(#[]:Array Value)))).objs.size=s.heap.objs.size+1:=by rw [Kp,Je]
 have oth:∀ b o,b<s.heap.objs.size->s.heap.get? b=some o->((s.heap.push {cls:=.type "list", data:=.seq #[]}).update s.heap.objs.size (Obj.mapSeq (fun _=>(#[]:Array Value)))).get? b=some o:=
  fun b o hb e=>(Yu _ _ (Ya hb)).trans (Zh _ e)
 refine Zc (wpAny_letGo ?_);generalize hH1:(s.heap.push {cls:=.type "list", data:=.seq #[]}).update s.heap.objs.size (Obj.mapSeq (fun _=>(#[]:Array Value)))=H1 at *;unfold Builtin.List.listExtendWith;have hTy:Shared.TypeIs {s with heap:=H1} (.ref z) "zip" := ⟨_,oth z _ zl hZ,rfl⟩;refine Zc (Ut hTy ?_);have n1:Builtin.List.listSameRef (.ref s.heap.objs.size) (.ref z)=false:=by simp [Builtin.List.listSameRef,Ya zl]
 rw [if_neg (by rw [n1];decide)];refine Zc (wpAny_pyIter_zip (oth z _ zl hZ) ?_);refine Zc (Yq ?_);unfold Builtin.List.listLengthHint;refine Zc (Qy hTy zsv ?_);show wpAny _ _ (specialOf (Value.ref z) (Str.ofString "__length_hint__") >>= _) _ _ _;refine Zc (Qy hTy zov ?_);refine Zi ?_;show wpAny _ _ (rule "list.extend.makes-room" >>= fun _=>Builtin.List.listTouch (.ref s.heap.objs.size) >>= fun _=>again (.builtin "list.extend.loop" ⟨[.ref s.heap.objs.size,.ref z,.none],[]⟩)) _ _ _;refine Zc (wpAny_rule ?_);refine Zc ?_;show wpAny _ _ (updateSeq s.heap.objs.size (·.push .none) >>= fun _=>updateSeq s.heap.objs.size (·.pop)) _ _ _;refine Zc (Ki hS₂ rfl ?_);have hS₃:=Yk (Obj.mapSeq (·.push Value.none)) hS₂ rfl;refine Ki (hz:=by seq_fits) hS₃ rfl ?_;have hS₄:=Yk (Obj.mapSeq (·.pop)) hS₃ rfl;have oth2:∀ b o,b<s.heap.objs.size->s.heap.get? b=some o->((H1.update s.heap.objs.size (Obj.mapSeq (·.push Value.none))).update s.heap.objs.size (Obj.mapSeq (·.pop))).get? b=some o:=
  fun b o hb e=>(Yu _ _ (Ya hb)).trans ((Yu _ _ (Ya hb)).trans (oth b o hb e))
 have hsz2:((H1.update s.heap.objs.size (Obj.mapSeq (·.push Value.none))).update s.heap.objs.size (Obj.mapSeq (·.pop))).objs.size=s.heap.objs.size+1:=by rw [Kp,Kp];exact hsz0
 generalize hH2:(H1.update s.heap.objs.size (Obj.mapSeq (·.push Value.none))).update s.heap.objs.size (Obj.mapSeq (·.pop))=H2 at *;have S0:∃ c0,H2.get? s.heap.objs.size=some {cls:=.type "list", dict:=none,data:=.seq #[] c0,slots:=#[]}:=⟨_,hS₄⟩;refine xb S0 fun c0 S0=>?_;have z2:=oth2 z _ zl hZ;have TI2:=oth2 TI _ TIl hTI;have TO2:=oth2 TO _ TOl hTO;have g1:=h1.at fun o e=>oth2 i1 o i1l e
 have g2:=h2.at fun o e=>oth2 i2 o i2l e
 have gl1:=hl1.at fun o e=>oth2 l1 o l1l e
 have gl2:=hl2.at fun o e=>oth2 l2 o l2l e
 refine Zi ⟨Q4 Wu _,W7 U4 ?_⟩;rw [Wn Wu _];show wpAny _ _ (pyNext (.ref z) >>= _) _ _ _;rcases Wx xs.size with e0 | e0
 ·refine Zc (wpAny_pyNext_zip_end (by simp [hh]) DD z2 TI2 TO2 g1 g2 gl1 gl2 (.inl (by simp [e0])) fun h' kp=>?_);exact Zi ⟨rfl,hQ h' s.toks #[] c0 [] (fun b o b1 b2 b3 b4 e=>kp b o b1 b2 b3 b4 (oth2 b o (old e) e)) (kp _ _ (Ya zl) (Ya TOl) (Ya i1l) (Ya i2l) S0) rfl (by rw [e0];rfl) (fun j t e=>by simp at e) (fun t ht=>by cases ht) Up⟩
 ·have hx:xs[0]? = some (xs[0]'e0):=Zr e0;have hy:ys[0]? = some (ys[0]'(by omega)):=Zr (by omega);refine Zc (wpAny_pyNext_zip_item DD z2 TI2 TO2 g1 g2 gl1 gl2 hx hy fun h' a1 a2 a3 a4 a5 a6 kp=>?_);replace a1:IsZ2 h' z TI TO H2.objs.size false:=a1
  replace a5:IsPair h' H2.objs.size (xs[0]'e0) (ys[0]'(by omega)):=a5
  replace a6:h'.objs.size=H2.objs.size+1:=a6
  show wpAny _ _ (updateSeq s.heap.objs.size (·.push (.ref H2.objs.size)) >>= _) _ _ _;rw [hsz2] at a1 a5 a6 |-;have S1:=kp _ _ (Ya zl) (Ya TOl) (Ya i1l) (Ya i2l) S0;refine Zc ?_;have up:∀ b o,b≠s.heap.objs.size->h'.get? b=some o->(h'.update s.heap.objs.size (Obj.mapSeq (·.push (.ref (s.heap.objs.size+1))))).get? b=some o:=fun b o hb e=>(Yu _ _ (Wk hb)).trans e
  have ne:∀ {b:Addr},b<s.heap.objs.size->b≠s.heap.objs.size:=fun h=>Z3 h
  refine Ki S1 rfl (Zi ⟨Q4 Wu _,yai .none (by simp [hh]) D hxy hz (fun b hb=>?_) (xs.size-1) 1 _ _ _ [s.heap.objs.size+1] (s.heap.objs.size+1) false rfl e0 (up z _ (ne zl) a1) (.head _) (up TI _ (ne TIl) (kp TI _ DD.TIz DD.TITO DD.TIi1 DD.TIi2 TI2)) (a3.at fun o e=>up i1 o (ne i1l) e) (a4.at fun o e=>up i2 o (ne i2l) e)
   (gl1.at fun o e=>up l1 o (ne l1l) (kp l1 o DD.l1z DD.l1TO DD.l1i1 DD.l1i2 e)) (gl2.at fun o e=>up l2 o (ne l2l) (kp l2 o DD.l2z DD.l2TO DD.l2i1 DD.l2i2 e)) (Yk _ S1 rfl) rfl rfl (fun j t e=>?_) (fun t ht=>?_) (Ka _ _) fun h'' tk acc' c' ts' kp2 e1 e2 e3 e4 e5 e6=>?_⟩)
  ·simp only [Zf,Wd,or_false] at hb;rcases hb with e | e | e | e | e | e | e <;> rw [e]
   ·exact Ya zl
   ·exact Ya TIl
   ·exact Ya TOl
   ·exact Ya i1l
   ·exact Ya i2l
   ·exact Ya l1l
   ·exact Ya l2l
  ·cases j with
   | zero=>
    simp at e
    subst e;exact⟨_,_,hx,hy,up _ _ (Vk _) a5⟩
   | succ j=>simp at e
  ·rw [Zu.mp ht];exact⟨Ya (Wq zl),Ya (Wq i1l),Ya (Wq i2l),Vk _⟩
  ·refine⟨rfl,hQ h'' tk acc' c' ts' (fun b o b1 b2 b3 b4 e=>kp2 b o (ne (old e)) b1 b3 b4 (up b o (ne (old e)) (kp b o b1 b2 b3 b4 (oth2 b o (old e) e)))) e1 e2 e3 e4 (fun t ht=>?_) e6⟩
   rcases e5 t ht with q | q
   ·rw [Zu.mp q];exact Qa _
   ·have q':(h'.update s.heap.objs.size (Obj.mapSeq (·.push (.ref (s.heap.objs.size+1))))).objs.size<=t:=q;rw [Kp,a6] at q';exact Zl (Wq (Qa _)) q'
end
end DL
namespace DL
open PySem L2 PyProof.Rows
def updL (H:Hp):List (Addr×HO)->Hp
 | []=>H
 | (a,o)::L=>upd (updL H L) a o
theorem zju {H:Hp}:∀ {L:List (Addr×HO)} {a:Addr} {o:HO},updL H L a=some o->(a,o)∈L\/(H a=some o/\a∉L.map (·.1))
 | [],a,o,h=>.inr ⟨h,by simp⟩
 | (b,u)::L,a,o,h=>by
  unfold updL at h;by_cases e:a=b
  ·subst e;rw [B5] at h;cases h;exact .inl (.head _)
  ·rw [zaa e] at h;rcases zju h with q | q
   ·exact .inl (.tail _ q)
   ·exact .inr ⟨q.1,by simp only [Zz,Zf,not_or];exact⟨e,q.2⟩⟩
theorem zcw {H:Hp}:∀ {L:List (Addr×HO)} {a:Addr},a∉L.map (·.1)->updL H L a=H a
 | [],_,_=>rfl
 | (b,u)::L,a,h=>by
  simp only [Zz,Zf,not_or] at h;unfold updL;rw [zaa h.1];exact zcw h.2
theorem zuv {H:Hp}:∀ {L:List (Addr×HO)} {a:Addr} {o:HO},(L.map (·.1)).Nodup->(a,o)∈L->updL H L a=some o
 | (b,u)::L,a,o,nd,h=>by
  rw [Zz,Wg] at nd;unfold updL;rcases Zf.mp h with e | h
  ·cases e;rw [B5]
  ·have ne:a≠b:=fun e=>nd.1 (e ▸ Z7 (f:=(·.1)) h)
   rw [zaa ne];exact zuv nd.2 h
section
variable {X:Cx} {pins:List (Addr×Obj)} {σ:L2.St} {H:Hp} {s:Shared} {h':Heap}
theorem Inv.laidL {t':Nat} {L:List (Addr×HO)} (I:L2.Inv X pins σ H s) (k:∀ b u,s.heap.get? b=some u->h'.get? b=some u) (hp:∀ p∈L,s.heap.objs.size<=p.1) (new:∀ p∈L,ObjOk X.prog X.w (updL H L) h' p.1 p.2) :
  L2.Inv X pins σ (updL H L) {s with heap:=h',toks:=t'}:=by
 have notL:∀ b,(∃ u,s.heap.get? b=some u)->b∉L.map (·.1):=fun b ⟨u,e⟩ hm=>by
  refine xa (Z1.mp hm) fun p hpm qz2=>?_;subst qz2
  exact Nat.lt_irrefl _ (Zl (Zp e) (hp p hpm))
 have Hn:∀ p∈L,H p.1=none:=fun p hpm=>I.hok.fresh (hp p hpm)
 have keepH:∀ b u,H b=some u->updL H L b=some u:=fun b u e=>by
  rw [zcw fun hm=>by
   refine xa (Z1.mp hm) fun p hpm qz2=>?_;subst qz2
   rw [Hn p hpm] at e;cases e]
  exact e
 refine I.un (t':=t') ⟨fun b u q _ _ _=>k b u q,fun b u q _ _ _=>⟨u.slots,k b u q⟩,fun b u q n _=>by rw [zcw (notL b ⟨u,q⟩)];exact n,fun b u q _=>⟨u,k b u q⟩,fun b xs q=>keepH b _ q,fun b u xs q=>keepH b _ q,fun b ps q=>⟨#[],by rw [keepH b _ q];simp⟩⟩ fun a o e=>?_;rcases zju e with q | ⟨q,_⟩
 ·exact new _ q
 ·exact (I.hok a o q).stay (fun c v _ z=>k c v z) (fun c z=>keepH c _ z) fun c xs z=>keepH c _ z
end
section
variable {K:PySem.W.Frag} {H0 Fc F H:Hp} {σ:L2.St} {ρ:Rho}
theorem ER.layL:∀ (L:List (Addr×HO)),ER K H0 Fc F H σ ρ->(L.map (·.1)).Nodup->(∀ p∈L,H p.1=none)->ER K H0 Fc (updL F L) (updL H L) σ ρ/\Same F (updL F L)
 | [],R,_,_=>⟨R,Same.refl _⟩
 | (a,o)::L,R,nd,hn=>by
  rw [Zz,Wg] at nd;refine xg (ER.layL L R nd.2 fun p hp=>hn p (.tail _ hp)) fun R1 s1=>?_;refine xg (R1.lay (a:=a) o (by rw [zcw nd.1];exact hn (a,o) (.head _))) fun R2 s2=>?_;exact⟨R2,s1.trans s2⟩
end
def zipD (a b:List D):List D:=(a.zip b).map fun p=>D.tup [p.1,p.2]
def zipL (ts:List Addr) (ps:List (V×V)):List (Addr×HO):=(ts.zip ps).map fun z=>(z.1,HO.tup [z.2.1,z.2.2])
theorem zqf {ts:List Addr} {ps:List (V×V)} (h:ts.length=ps.length):(zipL ts ps).map (·.1)=ts:=by
 unfold zipL;rw [Wv];show (ts.zip ps).map (fun z=>z.1)=ts;exact List.map_fst_zip (by omega)
theorem zyr {K:PySem.W.Frag} {F:Hp}:∀ {a b:List D} {xs ys:List V} {ts:List Addr} {G:Hp},DenL K F a xs->DenL K F b ys->xs.length=ys.length->ts.length=xs.length->Same F G->(∀ p∈zipL ts (xs.zip ys),G p.1=some p.2)->DenL K G (zipD a b) (ts.map V.ref)
 | [],b,xs,ys,ts,G,h1,h2,e1,e2,s,hG=>by
  have z:=h1.inv_nil;subst z;have:ts=[]:=V6.mp (by simpa using e2)
  subst this;exact DenL.nil
 | d::a,b,xs,ys,ts,G,h1,h2,e1,e2,s,hG=>by
  refine xc h1.inv_cons fun v vs z q r=>?_;subst z;cases b with
  | nil=>rw [h2.inv_nil] at e1;cases e1
  | cons d2 b=>
   refine xc h2.inv_cons fun v2 vs2 z2 q2 r2=>?_;subst z2;cases ts with
   | nil=>cases e2
   | cons t ts=>
    have g0:=hG (t,HO.tup [v,v2]) (.head _);refine DenL.cons (Den.tup_mk (SqT.of g0) (DenL.cons (q.mono s) (DenL.cons (q2.mono s) DenL.nil))) ?_;exact zyr r r2 (by simpa using e1) (by simpa using e2) s fun p hp=>hG p (.tail _ hp)
theorem zox:∀ {xs:List V} {us:List Value},Vals xs us->∀ (j:Nat) (u:Value),us[j]? = some u->∃ x,xs[j]? = some x/\RelV x u
 | [],_,h,j,u,e=>by cases h;simp at e
 | x::xs,_,h,0,u,e=>by
  cases h with
  | cons h1 h2=>simp at e;subst e;exact⟨x,rfl,h1⟩
 | x::xs,_,h,j+1,u,e=>by
  cases h with
  | cons h1 h2=>
   refine xa (zox h2 j u (by simpa using e)) fun y e1 e2=>?_;exact⟨y,by simpa using e1,e2⟩
theorem zql:∀ ts:List Addr,Vals (ts.map V.ref) (ts.map Value.ref)
 | []=>.nil
 | t::ts=>.cons rfl (zql ts)
section
variable {X:Cx}
theorem ycq {a b:List D} (hX:X.calm=true) (hab:a.length=b.length):zou X (.type "list") (.type "zip") [.lst a,.lst b] (.new (zipD a b)):=by
 refine⟨fun vs H Q=>∃ p q xs ys,vs=[.ref p,.ref q]/\SqL X.K H p xs/\SqL X.K H q ys/\xs.length=ys.length/\∀ (l:Addr) (ts:List Addr),ts.length=xs.length->(l::ts).Nodup->(∀ t∈l::ts,H t=none)->Q (.ref l) (upd (updL H (zipL ts (xs.zip ys))) l (.lst (ts.map V.ref))),fun pins s σ H vs us Q I r h=>?_,fun H0 Fc H F σ ρ vs Q R q k=>?_⟩
 ·refine xC h fun p q xs ys qz4 hl1 hl2 hxy hq=>?_;clear h;subst qz4
  cases r with
  | cons r1 r=>
   cases r with
   | cons r2 r=>
    cases r;cases r1;cases r2;refine xh (I.list hl1) fun its1 v1 pl1 z1=>?_;refine xh (I.list hl2) fun its2 v2 pl2 z2=>?_;have n1:=v1.length;have n2:=v2.length;have lp:p<s.heap.objs.size:=by refine xa pl1.isList fun o ho _=>?_;exact Zp ho
    have lq:q<s.heap.objs.size:=by refine xa pl2.isList fun o ho _=>?_;exact Zp ho
    refine call_zip_2 pl1.isList pl2.isList fun h1 g1 g2 g3 g4 g5 g6 kp1=>?_;refine zmb (s:={s with heap:=h1}) (I.ok.hd hX) (za_of lp lq) (zap_of lp lq) (by simp only [Zv];omega) (by simp only [Zv];omega) g1 g2 g3 g4 g5 (pl1.isList.at fun o e=>kp1 _ o e) (pl2.isList.at fun o e=>kp1 _ o e) fun h2 tk acc c ts kp2 e1 e2 e3 e4 e5 e6=>?_;have sz1:∀ n:Nat,(s.heap.objs.size+n:Addr)≠s.heap.objs.size\/n=0:=fun n=>by
     rcases Wx n with z | z
     ·exact .inr z
     ·exact .inl (ane (by omega))
    have le:s.heap.objs.size<=h1.objs.size:=by rw [g6];exact Jt _ _
    have tl:ts.length=xs.length:=by rw [e3,Zv,<- n1]
    have kp:∀ b u,s.heap.get? b=some u->h2.get? b=some u:=fun b u e=>by
     have hb:=Zp e;exact kp2 b u (Z3 (Zl hb (Jt _ 4))) (Z3 (Zl hb (Jt _ 3))) (Z3 hb) (Z3 (Wq hb)) (kp1 b u e)
    have hLs:∀ t∈h1.objs.size::ts,s.heap.objs.size<=t:=fun t ht=>by
     rcases Zf.mp ht with e | ht
     ·rw [e];exact le
     ·exact Yn le (Q8 (e5 t ht))
    have nd:(h1.objs.size::ts).Nodup:=Wg.mpr ⟨fun hm=>Nat.lt_irrefl _ (e5 _ hm),e6⟩;have zl:(xs.zip ys).length=xs.length:=by rw [Vo];omega
    have fst:(zipL ts (xs.zip ys)).map (·.1)=ts:=zqf (by rw [zl];exact tl);have hsize:∀ t∈ts,t∈(zipL ts (xs.zip ys)).map (·.1):=fun t ht=>by rw [fst];exact ht
    show EP X pins σ Q (.ref h1.objs.size) {s with heap:=h2,toks:=tk};refine⟨.ref h1.objs.size,updL H ((h1.objs.size,HO.lst (ts.map V.ref))::zipL ts (xs.zip ys)),Inv.laidL (t':=tk) I kp (fun pr hpr=>?_) (fun pr hpr=>?_),rfl,hq _ ts tl nd fun t ht=>I.hok.fresh (hLs t ht)⟩
    ·refine hLs _ ?_;rcases Zf.mp hpr with e | hm
     ·rw [e];exact .head _
     ·exact .tail _ (by rw [<- fst];exact Z7 hm)
    ·rcases Zf.mp hpr with e | hm
     ·rw [e];show ObjOk X.prog X.w _ h2 _ (.lst (ts.map V.ref));refine⟨by rw [Zd,tl];exact z1,ts.map Value.ref,c,zql ts,?_⟩
      have:acc=(ts.map Value.ref).toArray:=by apply Jn.mp;rw [e2]
      rw [<- this];exact e1
     ·unfold zipL at hm;refine xa (Z1.mp hm) fun zz hz e=>?_;refine xb (Yg hz) fun j hj=>?_;rw [Jb] at hj;refine xg hj fun j1 j2=>?_;clear hj
      rw [Jb] at j2;refine xc (e4 j zz.1 j1) fun x y x1 x2 x3=>?_;refine xa (zox v1 j x (by simpa using x1)) fun vx ex rx=>?_;refine xa (zox v2 j y (by simpa using x2)) fun vy ey ry=>?_;rw [j2.1] at ex;rw [j2.2] at ey;cases ex;cases ey;rw [<- e];show ObjOk X.prog X.w _ h2 zz.1 (.tup [zz.2.1,zz.2.2]);exact⟨by show 2<=sizeLine;decide,[x,y],.cons rx (.cons ry .nil),_,x3,rfl,0,rfl⟩
 ·refine xc q.two fun v u e q1 q2=>?_;refine xc q1.lst fun p xs e1 sq1 d1=>?_;refine xc q2.lst fun p2 ys e2 sq2 d2=>?_;rw [e1,e2] at e;have l1:=d1.length;have l2:=d2.length;refine⟨p,p2,xs,ys,e,R.sub.seq sq1,R.sub.seq sq2,by omega,fun l ts tl nd hn=>?_⟩
  rw [Wg] at nd;have zl:(xs.zip ys).length=xs.length:=by rw [Vo];omega
  have fst:(zipL ts (xs.zip ys)).map (·.1)=ts:=zqf (by rw [zl];exact tl);have hnL:∀ pr∈zipL ts (xs.zip ys),H pr.1=none:=fun pr hpr=>hn _ (.tail _ (by rw [<- fst];exact Z7 hpr))
  refine xg (ER.layL (zipL ts (xs.zip ys)) R (by rw [fst];exact nd.2) hnL) fun R1 s1=>?_;have hl:updL H (zipL ts (xs.zip ys)) l=none:=by
   rw [zcw (by rw [fst];exact nd.1)];exact hn l (.head _)
  refine xi (R1.put (.lst (ts.map V.ref)) hl) fun R4 hF h0=>?_;refine k _ _ _ s1 R4 (RW.n hF h0 B5 ?_);exact zyr d1 d2 (by omega) tl s1 fun pr hpr=>zuv (by rw [fst];exact nd.2) hpr
end
end DL
namespace DL
open PySem L2 PyProof.Rows
section
variable {prog:Program} {w:World} {A:Around} {E:Value->Shared->Prop} {s:Shared}
theorem ygm {it t:Addr} {items:Array Value} (hne:t≠it):∀ (n i:Nat) (s:Shared) (Q:List Value->Shared->Prop),s.heap.IsListIter it t i->s.heap.IsList t items->i+n<=items.size ->
  (∀ h',h'.IsListIter it t (i+n)->Heap.SameBut it s.heap h'->Q ((items.toList.drop i).take n) {s with heap:=h'})->wpAny (model prog w) A (draw (.ref it) n) Q E s
 | 0,i,s,Q,hit,_,_,hQ=>by
  show wpAny _ _ (pure []) Q E s;exact Zi (by simpa using hQ s.heap hit ⟨rfl,fun _ _=>rfl⟩)
 | n+1,i,s,Q,hit,ht,hle,hQ=>by
  have hlt:i<items.size:=by omega
  show wpAny _ _ (pyNext (.ref it) >>= _) Q E s;refine Zc (G6 hit ht (x:=items[i]) (by simp [hlt]) fun h₁ a₁ b₁=>?_);refine Zc (Yq (ygm hne n (i+1) _ _ a₁ (ht.extBut b₁.extBut hne) (by omega) fun h₂ a₂ b₂=>Zi ?_));have e0:items.toList.drop i=items[i]::items.toList.drop (i+1):=by simp [Yd,hlt]
  have q:=hQ h₂ (by rw [show i+(n+1)=i+1+n by omega];exact a₂) (b₁.trans b₂);rw [e0,List.take_succ_cons] at q;exact q
theorem yan {t:Addr} {items:Array Value} {Q:List Value->Shared->Prop} (hh:A.handled=none) (ht:s.heap.IsList t items)
  (hQ:∀ h',Heap.ExtBut s.heap.objs.size s.heap h'->Q items.toList {s with heap:=h'}):wpAny (model prog w) A (unpackItems (.ref t) items.size none) Q E s:=by
 have hlt:t≠s.heap.objs.size:=by refine xa ht fun o ho _=>?_;clear ht;exact Z3 (Zp ho)
 unfold unpackItems;refine Zc ?_
 ·unfold notIterableAtAll;refine Zc (Qy ht.typeIs slot_list_iter.lookup ?_);refine Zi ?_;simp only [Z0,if_false];refine Zc (Yq (Vs ht ?_));refine Zc (Yq (ygm hlt items.size 0 _ _ ⟨_,Z8 _ rfl,rfl,rfl⟩ (ht.push _) (by omega) fun h₁ a₁ b₁=>?_));have al:List.take items.size (List.drop 0 items.toList)=items.toList:=by
   rw [Jc];exact Ju (by simp)
  rw [al,if_neg (by simp)];have t₁:h₁.IsList t items:=(ht.push _).extBut b₁.extBut hlt;refine Zc (Yq (Bh hh a₁ t₁ (by simp) fun h₂ e₂=>?_));simp only [Option.isSome_none,Z0,if_false];exact Zi (hQ h₂ fun b o hb e=>e₂ b o hb (b₁.extBut b o hb (Zh _ e)))
theorem yet {env:Env} {elts:List Expr} {x1} {pos:Pos} {t:Addr} {items:Array Value} {Q:Unit->Shared->Prop} (hh:A.handled=none) (ht:s.heap.IsList t items)
  (hn:(assignEach elts env).length=items.size) (hst:(assignEach elts env).findIdx? (·.1)=none)
  (h:∀ h',Heap.ExtBut s.heap.objs.size s.heap h'->wpAny (model prog w) A (assignInOrder ((assignEach elts env).map (·.2)) items.toList) Q E {s with heap:=h'}) :
  wpAny (model prog w) A (assign (.Tuple elts x1 pos) env (.ref t)) Q E s:=by
 rw [PyProof.Rows.assign_Tuple];refine Zc (J1 ?_);unfold unpack;rw [hn,hst];exact Zc (Yq (yan hh ht h))
end
section
variable {X:Cx} {pos:Pos}
def gLst (K:PySem.W.Frag) (n:Nat) (t:TGs):TG:=fun v σ H Q=>∃ a xs,v=.ref a/\SqL K H a xs/\xs.length=n/\t xs σ H Q
theorem pg_lst {es:List Expr} {k:Nat} {t:TGs} {n:Nat} (hc:X.calm=true) (h:PGs X es t) (hn:(assignEach es X.env).length=n) (hst:(assignEach es X.env).findIdx? (·.1)=none):PG X (.Tuple es k pos) (gLst X.K n t):=by
 intro pins s σ H v u Q I r hw;obtain⟨a,xs,e1,hq,hl,hw⟩:=hw
 subst e1;cases r;obtain⟨its,rv,ht,hz⟩:=I.list hq
 refine yet (I.ok.hd hc) ht.isList (by simp [hn,<- hl,rv.length]) hst fun h' hx=>?_;have I1:Inv X pins σ H {s with heap:=h'}:=I.kept (t':=s.toks) fun b o e=>hx b o (Z3 (Zp e)) e
 exact h pins _ σ H xs _ Q I1 (by simpa using rv) hw
theorem DG.lst {ts:List Expr} {ds:List D} {ρ ρ':RhoS} {k} (hc:X.calm=true) (h:DGs X ts ds ρ ρ') (hs:ts.all By=true) (hl:ds.length=ts.length):DG X (.Tuple ts k pos) (.lst ds) ρ ρ':=fun H0 Fc=>
 PG.mono (pg_lst (n:=ts.length) hc (h H0 Fc) (zal hs).1 (zal hs).2) fun v σ H Q hz=>xh hz fun F S q k=>by
  refine xc q.lst fun a xs e sq r=>?_;exact⟨a,xs,e,S.sub.seq sq,by rw [r.length];exact hl,F,S,r,k⟩
end
end DL
namespace DL
open PySem L2 PyProof.Rows
inductive Op where
 | add | sub | mul | fdiv | mod | pow
inductive Cm where
 | lt | le | gt | ge | eq | ne | isN | notN | isin | notin
inductive Ty where
 | int | bool | tuple | list
inductive Bi where
 | len | abs | min | max
inductive Fm where
 | ss | rev | lset | tupl | zip
inductive Tg where
 | name (i:Nat) | tup (l:List Nat)
mutual
inductive E where
 | var (i:Nat) | int (i:Int) | bl (b:Bool) | non
 | bin (o:Op) (a b:E) | neg (a:E) | cmp (c:Cm) (a b:E)
 | and (a b:E) | or (a b:E) | not (a:E) | ife (c a b:E)
 | tup (l:Es) | lst (l:Es) | ix (a b:E) | sl (a:E) (lo hi:EO)
 | call (f:Nat) (l:Es) | bi (f:Bi) (l:Es) | isi (a:E) (t:Ty) | isx (a:E) (ys:List Str)
 | fm (f:Fm) (l:Es) | lcp (a:E) | comp (elt:E) (t:Tg) (it:It') (nt:Nat) (fr:List Nat) (c:EO)
inductive Es where
 | nil | cons (e:E) (l:Es)
inductive EO where
 | non | som (e:E)
inductive It' where
 | seq (e:E) | seqV (i:Nat) | range1 (a:E) | range2 (a b:E) | enum (e:E)
end
mutual
inductive S where
 | asg (i:Nat) (e:E) | unp (l:List Nat) (e:E) | par (i j:Nat) (a b:E)
 | ret (e:E) | retV (i:Nat) | iff (c:E) (a b:Ss) | whl (c:E) (b:Ss) | frr (t:Tg) (it:It') (b:Ss) | tryC (f g:Nat) (l:Es) (i j:Nat) | app (i:Nat) (e:E) | pop (i:Nat) | clr (i:Nat) | seti (i:Nat) (k e:E) | never
inductive Ss where
 | nil | cons (s:S) (l:Ss)
end
def zap (a b:Int):Bool:=decide (a.natAbs<2^16000) && decide (b.natAbs<2^16000)
def zdj (b:Int):Bool:=decide (b≠0) && decide (b.natAbs<2^9000)
def zlb (a b:Int):Bool:=decide (0<=b) && decide (b<=1000) && decide (a.natAbs<2^64)
def addW:D->D->Option W
 | .int a,.int b=>some (.val (.int (a+b)))
 | .lst a,.lst b=>if a.length+b.length<=sizeLine then some (.new (a++b)) else none
 | _,_=>none
def arW (f:Int->Int->Option W):D->D->Option W
 | .int a,.int b=>f a b
 | _,_=>none
def opW:Op->D->D->Option W
 | .add,x,y=>addW x y
 | .sub,x,y=>arW (fun a b=>some (.val (.int (a-b)))) x y
 | .mul,x,y=>arW (fun a b=>if zap a b=true then some (.val (.int (a*b))) else none) x y
 | .fdiv,x,y=>arW (fun a b=>if zdj b=true then some (.val (.int (a.fdiv b))) else none) x y
 | .mod,x,y=>arW (fun a b=>if b=0 then none else some (.val (.int (a.fmod b)))) x y
 | .pow,x,y=>arW (fun a b=>if zlb a b=true then some (.val (.int (a^b.toNat))) else none) x y
def ordO (f:Int->Int->Bool):D->D->Option Bool
 | .int a,.int b=>some (f a b)
 | _,_=>none
def eqO:D->D->Option Bool
 | .int a,.int b=>some (decide (a=b))
 | .bl a,.bl b=>some (a == b)
 | .tup a,.tup b=>if (dOkL 49 a && dOkL 49 b)=true then some (eqL a b) else none
 | .lst a,.lst b=>if (dOkL 49 a && dOkL 49 b)=true then some (eqL a b) else none
 | _,_=>none
def inO (x:D):D->Option Bool
 | .lst l=>if (dOk 50 x && dOkL 49 l)=true then some (l.any fun y=>eqD y x) else none
 | _=>none
def nonO (x:D):D->Option Bool
 | .non=>some (zoa x)
 | _=>none
def cmpD:Cm->D->D->Option Bool
 | .lt,x,y=>ordO (fun a b=>decide (a<b)) x y
 | .le,x,y=>ordO (fun a b=>decide (a<=b)) x y
 | .gt,x,y=>ordO (fun a b=>decide (b<a)) x y
 | .ge,x,y=>ordO (fun a b=>decide (b<=a)) x y
 | .eq,x,y=>eqO x y
 | .ne,x,y=>(eqO x y).map not
 | .isin,x,y=>inO x y
 | .notin,x,y=>(inO x y).map not
 | .isN,x,y=>nonO x y
 | .notN,x,y=>(nonO x y).map not
def isTy:Ty->D->Bool
 | .int,.int _=>true
 | .int,.bl _=>true
 | .bool,.bl _=>true
 | .tuple,.tup _=>true
 | .list,.lst _=>true
 | _,_=>false
def ztw (t:Ty):D->Option Bool
 | .exc _=>none
 | d=>some (isTy t d)
def lenW:List D->Option W
 | [.lst l]=>some (.val (.int l.length))
 | [.tup l]=>some (.val (.int l.length))
 | _=>none
def absW:List D->Option W
 | [.int i]=>some (.val (.int (if i<0 then -i else i)))
 | _=>none
def minW:List D->Option W
 | [.int i,.int j]=>some (.val (.int (if j<i then j else i)))
 | _=>none
def maxW:List D->Option W
 | [.int i,.int j]=>some (.val (.int (if i<j then j else i)))
 | _=>none
def biW:Bi->List D->Option W
 | .len,ds=>lenW ds
 | .abs,ds=>absW ds
 | .min,ds=>minW ds
 | .max,ds=>maxW ds
def ixD:D->D->Option D
 | .tup l,.int i=>atI l i
 | .lst l,.int i=>atI l i
 | _,_=>none
def slD:D->Option Int->Option Int->Option W
 | .lst l,i,j=>some (.new (cutD l i j))
 | _,_,_=>none
def zdb:D->Option Bool
 | .bl b=>some b
 | _=>none
def dInt:D->Option Int
 | .int i=>some i
 | _=>none
def lcpW:D->Option W
 | .lst l=>some (.new l)
 | .tup l=>some (.new l)
 | _=>none
def ssW:List D->Option W
 | [.lst l]=>(zlo l).bind fun ks=>if ks.length<=63 then some (.new ((ssK ks).map dK)) else none
 | _=>none
def revW:List D->Option W
 | [.lst l]=>some (.new l.reverse)
 | _=>none
def yha:List D->Option W
 | [.lst l]=>some (.val (.tup l))
 | _=>none
def zipW:List D->Option W
 | [.lst a,.lst b]=>if a.length=b.length then some (.new (zipD a b)) else none
 | _=>none
def fmW:Fm->List D->Option W
 | .ss,ds=>ssW ds
 | .rev,ds=>revW ds
 | .tupl,ds=>yha ds
 | .zip,ds=>zipW ds
 | .lset,_=>none
def tgOk (n:Nat):Tg->Bool
 | .name i=>decide (i<n)
 | .tup l=>l.all fun i=>decide (i<n)
def setE (ρ:Rho) (i:Nat) (d:D):Option Rho:=if i<ρ.length then some (ρ.set i (some d)) else none
def zcu:List Nat->List D->Rho->Option Rho
 | [],[],ρ=>some ρ
 | i::is,d::ds,ρ=>(setE ρ i d).bind (zcu is ds)
 | _,_,_=>none
def zca:Tg->D->Rho->Option Rho
 | .name i,d,ρ=>setE ρ i d
 | .tup is,.tup ds,ρ=>zcu is ds ρ
 | _,_,_=>none
def ydr (l:List D):List D:=l.zipIdx.map fun p=>D.tup [.int (p.2:Int),p.1]
def seqD:D->Option (List D)
 | .lst l=>some l
 | .tup l=>some l
 | _=>none
def lstD:D->Option (List D)
 | .lst l=>some l
 | _=>none
def varD (ρ:Rho) (i:Nat):Option D:=match ρ[i]? with
 | some (some d)=>some d
 | _=>none
section
variable (Γ:Nat->List D->Option W)
mutual
def ev:E->Rho->Option W
 | .var i,ρ=>(varD ρ i).map W.val
 | .int i,_=>some (.val (.int i))
 | .bl b,_=>some (.val (.bl b))
 | .non,_=>some (.val .non)
 | .bin o a b,ρ=>((ev a ρ).map W.d).bind fun x=>((ev b ρ).map W.d).bind fun y=>opW o x y
 | .neg a,ρ=>(((ev a ρ).map W.d).bind dInt).map fun i=>.val (.int (-i))
 | .cmp c a b,ρ=>((ev a ρ).map W.d).bind fun x=>((ev b ρ).map W.d).bind fun y=>(cmpD c x y).map fun k=>.val (.bl k)
 | .and a b,ρ=>(((ev a ρ).map W.d).bind zdb).bind fun k=>if k=true then ev b ρ else some (.val (.bl false))
 | .or a b,ρ=>(((ev a ρ).map W.d).bind zdb).bind fun k=>if k=true then some (.val (.bl true)) else ev b ρ
 | .not a,ρ=>(((ev a ρ).map W.d).bind zdb).map fun k=>.val (.bl (!k))
 | .ife c a b,ρ=>(((ev c ρ).map W.d).bind zdb).bind fun k=>if k=true then ev a ρ else ev b ρ
 | .tup l,ρ=>(evs l ρ).bind fun ds=>if ds.length<=sizeLine then some (.val (.tup ds)) else none
 | .lst l,ρ=>(evs l ρ).bind fun ds=>if ds.length<=sizeLine then some (.new ds) else none
 | .ix a b,ρ=>((ev a ρ).map W.d).bind fun x=>((ev b ρ).map W.d).bind fun y=>(ixD x y).map W.val
 | .sl a lo hi,ρ=>((ev a ρ).map W.d).bind fun x=>(evo lo ρ).bind fun i=>(evo hi ρ).bind fun j=>slD x i j
 | .call f l,ρ=>(evs l ρ).bind fun ds=>Γ f ds
 | .bi f l,ρ=>(evs l ρ).bind fun ds=>biW f ds
 | .isi a t,ρ=>((ev a ρ).map W.d).bind fun d=>(ztw t d).map fun k=>.val (.bl k)
 | .isx a ys,ρ=>((ev a ρ).map W.d).bind fun d=>(isX ys d).map fun k=>.val (.bl k)
 | .fm f l,ρ=>(evs l ρ).bind fun ds=>fmW f ds
 | .lcp a,ρ=>((ev a ρ).map W.d).bind lcpW
 | .comp elt t it nt fr c,ρ=>(evW it ρ).bind fun items=>if items.length<=sizeLine/\tgOk nt t=true then
   (zdk (fun d=>(zca t d (blkR nt fr ρ)).bind fun ρd=>(evc c ρd).bind fun k=>if k=true then ((ev elt ρd).map W.d).map some else some none) items).map W.new else none
def evs:Es->Rho->Option (List D)
 | .nil,_=>some []
 | .cons e l,ρ=>((ev e ρ).map W.d).bind fun d=>(evs l ρ).map fun ds=>d::ds
def evo:EO->Rho->Option (Option Int)
 | .non,_=>some none
 | .som e,ρ=>(((ev e ρ).map W.d).bind dInt).map some
def evc:EO->Rho->Option Bool
 | .non,_=>some true
 | .som e,ρ=>((ev e ρ).map W.d).bind zdb
def evW:It'->Rho->Option (List D)
 | .seq e,ρ=>((ev e ρ).map W.d).bind seqD
 | .seqV i,ρ=>(varD ρ i).bind seqD
 | .range1 a,ρ=>(((ev a ρ).map W.d).bind dInt).bind fun n=>if -(2^62)<=n/\n<2^62 then some (zbk 0 n.toNat) else none
 | .range2 a b,ρ=>(((ev a ρ).map W.d).bind dInt).bind fun m=>(((ev b ρ).map W.d).bind dInt).bind fun n=>
   if -(2^62)<=m/\m<2^62 /\ -(2^62)<=n/\n<2^62 then some (zbk m (n-m).toNat) else none
 | .enum e,ρ=>(((ev e ρ).map W.d).bind lstD).map ydr
end
def evB (e:E) (ρ:RhoS):Option Bool:=((ev Γ e (view ρ)).map W.d).bind zdb
def setR (ρ:RhoS) (i:Nat) (b:B):Option RhoS:=if i<ρ.length then some (ρ.set i (some b)) else none
def zdx:List Nat->List D->RhoS->Option RhoS
 | [],[],ρ=>some ρ
 | i::is,d::ds,ρ=>(setR ρ i (.sh d)).bind (zdx is ds)
 | _,_,_=>none
def zbh:Tg->D->RhoS->Option RhoS
 | .name i,d,ρ=>setR ρ i (.sh d)
 | .tup is,.tup ds,ρ=>zdx is ds ρ
 | _,_,_=>none
def seqB (ρ:RhoS):Option (Option B)->Option (List D×RhoS)
 | some (some (.sh (.lst l)))=>some (l,ρ)
 | some (some (.sh (.tup l)))=>some (l,ρ)
 | some (some (.ow l))=>some (l,frz ρ)
 | _=>none
def evI:It'->RhoS->Option (List D×RhoS)
 | .seqV i,ρ=>seqB ρ ρ[i]?
 | .seq e,ρ=>(ev Γ e (view ρ)).bind fun w=>match w.d with
  | .lst l=>some (l,after w ρ)
  | .tup l=>some (l,after w ρ)
  | _=>none
 | .range1 a,ρ=>(((ev Γ a (view ρ)).map W.d).bind dInt).bind fun n=>if -(2^62)<=n/\n<2^62 then some (zbk 0 n.toNat,ρ) else none
 | .range2 a b,ρ=>(((ev Γ a (view ρ)).map W.d).bind dInt).bind fun m=>(((ev Γ b (view ρ)).map W.d).bind dInt).bind fun n=>
   if -(2^62)<=m/\m<2^62 /\ -(2^62)<=n/\n<2^62 then some (zbk m (n-m).toNat,ρ) else none
 | .enum e,ρ=>(ev Γ e (view ρ)).bind fun w=>match w.d with
  | .lst l=>some (ydr l,frz ρ)
  | _=>none
open Classical in
def zho (c:RhoS->Option Bool) (b:RhoS->Option Out) (ρ:RhoS):Option Out:=
 if h:∃ n o,zag c b n ρ=some o then zag c b h.choose ρ else none
theorem zem {c:RhoS->Option Bool} {b:RhoS->Option Out}:∀ {n m:Nat} {ρ:RhoS} {o:Out},zag c b n ρ=some o->n<=m->zag c b m ρ=some o
 | 0,_,_,_,h,_=>by cases h
 | n+1,0,_,_,_,h=>by omega
 | n+1,m+1,ρ,o,h,hm=>by
  unfold zag at h |-;cases e:c ρ with
  | none=>rw [e] at h;cases h
  | some k=>
   simp only [e] at h |-;cases k with
   | false=>exact h
   | true=>
    cases e2:b ρ with
    | none=>simp only [e2] at h;cases h
    | some o2=>
     simp only [e2] at h |-;cases o2 with
     | rt w=>exact h
     | nx ρ'=>exact zem h (by omega)
theorem zdl {c:RhoS->Option Bool} {b:RhoS->Option Out} {n:Nat} {ρ:RhoS} {o:Out} (h:zag c b n ρ=some o):zho c b ρ=some o:=by
 have hx:∃ n o,zag c b n ρ=some o:=⟨n,o,h⟩;unfold zho;rw [dif_pos hx];refine xb hx.choose_spec fun o' h'=>?_;rw [h'];have a:=zem h (Nat.le_max_left n hx.choose);have b:=zem h' (Nat.le_max_right n hx.choose);rw [a] at b;exact b.symm
theorem zjt {c:RhoS->Option Bool} {b:RhoS->Option Out} {ρ:RhoS} {o:Out} (h:zho c b ρ=some o):∃ n,zag c b n ρ=some o:=by
 unfold zho at h;by_cases hx:∃ n o,zag c b n ρ=some o
 ·rw [dif_pos hx] at h;exact⟨_,h⟩
 ·rw [dif_neg hx] at h;cases h
mutual
def ex:S->RhoS->Option Out
 | .asg i e,ρ=>(ev Γ e (view ρ)).bind fun w=>(setR (after w ρ) i w.b).map Out.nx
 | .unp is e,ρ=>(ev Γ e (view ρ)).bind fun w=>(zbh (.tup is) w.d (after w ρ)).map Out.nx
 | .par i j a b,ρ=>((ev Γ a (view ρ)).map W.d).bind fun x=>((ev Γ b (view ρ)).map W.d).bind fun y=>
   if lf x=true/\lf y=true/\i≠j/\i<ρ.length/\j<ρ.length then some (.nx ((ρ.set i (some (.sh x))).set j (some (.sh y)))) else none
 | .ret e,ρ=>(ev Γ e (view ρ)).map Out.rt
 | .retV i,ρ=>match ρ[i]? with
  | some (some (.ow l))=>some (.rt (.new l))
  | some (some (.sh d))=>some (.rt (.val d))
  | _=>none
 | .iff c a b,ρ=>(evB Γ c ρ).bind fun k=>if k=true then exs a ρ else exs b ρ
 | .whl c b,ρ=>zho (evB Γ c) (exs b) ρ
 | .frr t it b,ρ=>(evI Γ it ρ).bind fun p=>forN (zbh t) (exs b) p.1 p.2
 | .tryC f g l i j,ρ=>(evs Γ l (view ρ)).bind fun ds=>match Γ g ds with
  | some (.val (.exc z))=>if z∈zhn/\i≠j/\i<ρ.length then some (.nx (((frz ρ).set j none).set i (some (.sh (.exc z))))) else none
  | _=>(Γ f ds).map fun _=>.nx (frz ρ)
 | .app i e,ρ=>(ev Γ e (view ρ)).bind fun w=>match ρ[i]?,w with
  | some (some (.ow l)),.val d=>if lf d=true/\l.length<sizeLine then some (.nx (ρ.set i (some (.ow (l++[d]))))) else none
  | _,_=>none
 | .pop i,ρ=>match ρ[i]? with
  | some (some (.ow l))=>if l=[] then none else some (.nx (ρ.set i (some (.ow l.dropLast))))
  | _=>none
 | .clr i,ρ=>match ρ[i]? with
  | some (some (.ow _))=>some (.nx (ρ.set i (some (.ow []))))
  | _=>none
 | .seti i k e,ρ=>(ev Γ e (view ρ)).bind fun w=>(((ev Γ k (view ρ)).map W.d).bind dInt).bind fun j=>match ρ[i]?,w with
  | some (some (.ow l)),.val d=>if lf d=true then (ixN l.length j).map fun n=>.nx (ρ.set i (some (.ow (l.set n d)))) else none
  | _,_=>none
 | .never,_=>none
def exs:Ss->RhoS->Option Out
 | .nil,ρ=>some (.nx ρ)
 | .cons s l,ρ=>(ex s ρ).bind fun o=>match o with
  | .nx ρ'=>exs l ρ'
  | .rt w=>some (.rt w)
end
def run (b:Ss) (n:Nat) (ds:List D):Option W:=(exs Γ b (ds.map (fun d=>some (.sh d))++List.replicate (n-ds.length) none)).bind fun o=>match o with
 | .rt w=>some w
 | .nx _=>some (.val .non)
end
end DL
namespace DL
open PySem L2 PyProof.Rows
section
variable {X:Cx} {e a b c:Expr} {es:List Expr} {ρ:RhoS} {pos:Pos}
def Ty.nm:Ty->String
 | .int => "int" | .bool => "bool" | .tuple => "tuple" | .list => "list"
def tyTy:Ty->Ty->Bool
 | .int,.int=>true
 | .int,.bool=>true
 | .bool,.bool=>true
 | .tuple,.tuple=>true
 | .list,.list=>true
 | _,_=>false
theorem zln (K:PySem.W.Frag):∀ (t:Ty) (u:Ty),PySem.W.kitOne K (.type u.nm) (.type t.nm)=some (tyTy t u):=by
 intro t u;cases t <;> cases u <;> kernel_rfl
theorem yjs (K:PySem.W.Frag):∀ (t:Ty),PySem.W.kitOne K (.type "NoneType") (.type t.nm)=some false:=by
 intro t;cases t <;> kernel_rfl
theorem isi_ok {pins:List (Addr×Obj)} {σ:L2.St} {F H:Hp} {s:Shared} {A:Around} {E:Value->Shared->Prop} {Q:Value->Shared->Prop} {d:D} {v:V} {u:Value} {t:Ty} (I:Inv X pins σ H s) (sF:Same F H) (h:Den X.K F d v) (r:RelV v u) (hd:ztw t d=some (isTy t d))
  (q:∀ tk,Q (.bool (isTy t d)) {s with toks:=tk}):wpAny (model X.prog X.w) A (call (.builtin "isinstance") [u,.type t.nm]) Q E s:=by
 cases d with
 | non=>
  rw [h.non] at r;cases (show u=Value.none from r)
  exact Kr PySem.W.kitx_none I.kIn True.intro (by rw [yjs X.K t]) (fun z=>nomatch z) (by cases t <;> exact q)
 | bl b=>
  rw [h.bl] at r;cases (show u=Value.bool b from r)
  exact Kr PySem.W.kitx_bool I.kIn True.intro (zln X.K t .bool) (fun z=>nomatch z) (by cases t <;> exact q)
 | int i=>
  rw [h.int] at r;refine xb ((show ∃ t,u=Value.int i t from r)) fun t' e=>?_;cases e;exact Kr PySem.W.kitx_int I.kIn True.intro (zln X.K t .int) (fun z=>nomatch z) (by cases t <;> exact q)
 | tup l=>
  refine xc h.tup fun a xs e sq _=>?_;rw [e] at r;cases (show u=Value.ref a from r)
  obtain⟨its,_,⟨o,h1,h2,_⟩,_⟩:=I.tuple (Same.tup sF sq)
  exact Kr PySem.W.kitx_tuple I.kIn ⟨o,h1,h2⟩ (zln X.K t .tuple) (fun z=>nomatch z) (by cases t <;> exact q)
 | lst l=>
  refine xc h.lst fun a xs e sq _=>?_;rw [e] at r;cases (show u=Value.ref a from r)
  obtain⟨its,_,⟨o,n,h1,h2,_⟩,_⟩:=I.list (sF.seq sq)
  exact Kr PySem.W.kitx_list I.kIn ⟨o,h1,h2⟩ (zln X.K t .list) (fun z=>nomatch z) (by cases t <;> exact q)
 | exc x=>cases hd
theorem ziv:bootBuiltins "isinstance" = some (.builtin "isinstance"):=by decide +kernel
theorem ylf (t:Ty):bootBuiltins (Str.ofString t.nm)=some (.type t.nm):=by cases t <;> decide +kernel
theorem ydz (t:Ty) (d:D) (hd:ztw t d=some (isTy t d)):zjq X (.builtin "isinstance") (fun vs H Q=>∃ F v,vs=[v,.ty t.nm]/\Same F H/\Den X.K F d v/\Q (.bl (isTy t d)) H):=by
 intro pins s σ H xs us Q I r ⟨F,v,e,sF,h,q⟩;subst e;refine xc (ygw r) fun u u' e r1 r2=>?_;subst e;cases (show u'=Value.type t.nm from r2)
 exact isi_ok I sF h r1 hd fun tk=>⟨.bl _,H,I.tok tk,rfl,q⟩
theorem DE.isi {t:Ty} {d:D} {x:Str} {p p2:Pos} {ρ:Rho} (hd:ztw t d=some (isTy t d)) (ha:DF X a ρ d) (hs:By a=true) (hg:Gl X "isinstance") (hm:X.mg "isinstance" = none) (hx:x=Str.ofString t.nm) (hgt:Gl X x) (hmt:X.mg x=none) :
  DE X (.Call (.Name "isinstance" p) [a,.Name x p2] [] pos) ρ (.val (.bl (isTy t d))):=fun H0 Fc=>by
 subst hx;have pt:PE X (.Name (Str.ofString t.nm) p2) (tC (.ty t.nm)):=yit hgt hmt (ylf t) rfl (by cases t <;> decide) (by cases t <;> decide);refine PE.mono (zri (ydz t d hd) hg hm ziv (zle (ha H0 Fc) (zle pt zwp) (B6 hs)) (by decide) (by decide) (B6 hs) rfl) fun σ H Q hz=>xa hz fun F R k=>?_
 exact⟨F,R,fun v H1 F1 s1 R1 q1=>⟨F1,v,rfl,R1.sub,q1,k _ H1 F1 s1 R1 RW.bl⟩⟩
end
end DL
namespace DL
open PySem L2 PyProof.Rows
section
variable {X:Cx} {e a b c t tg:Expr} {es ts:List Expr} {ρ ρ' ρ2:Rho} {pos:Pos} {d:D} {ds:List D} {w:W}
theorem zsw {K:PySem.W.Frag} {F:Hp} {a:Addr} {xs:List V} {l:List D} (sq:SqL K F a xs) (r:DenL K F l xs):Walks K F (Itl K a) l:=fun i H' sH=>⟨fun d hd=>by
 refine xa (r.get hd) fun y h1 h2=>?_;refine⟨⟨xs,y,sH.seq sq,h1⟩,fun x H'' hz=>xg hz fun ey yy=>?_⟩
 have:=yy xs (sH.seq sq)
 rw [h1] at this;cases this;exact .inl ⟨ey,h2⟩,fun hle=>⟨xs,sH.seq sq,by rw [r.length];exact hle⟩⟩
theorem zup {K:PySem.W.Frag} {F:Hp} {a:Addr} {xs:List V} {l:List D} (sq:SqT K F a xs) (r:DenL K F l xs):Walks K F (Itt K a) l:=fun i H' sH=>⟨fun d hd=>by
 refine xa (r.get hd) fun y h1 h2=>?_;refine⟨⟨xs,y,Same.tup sH sq,h1⟩,fun x H'' hz=>xg hz fun ey yy=>?_⟩
 have:=yy xs (Same.tup sH sq)
 rw [h1] at this;cases this;exact .inl ⟨ey,h2⟩,fun hle=>⟨xs,Same.tup sH sq,by rw [r.length];exact hle⟩⟩
theorem DIe.list {l:List D} (he:DF X e ρ (.lst l)):DIe X tg e ρ l:=fun H0 Fc=>PI.mono (zpf (he H0 Fc)) fun σ H R hz=>xa hz fun F Re k=>⟨F,Re,fun v H2 F2 s2 R2 q=>by
 refine xc q.lst fun a xs e1 sq r=>?_;exact⟨a,e1,⟨xs,R2.sub.seq sq⟩,k _ H2 F2 s2 R2 (zsw sq r)⟩⟩
theorem DIe.tup {l:List D} (he:DF X e ρ (.tup l)):DIe X tg e ρ l:=fun H0 Fc=>PI.mono (zwl (he H0 Fc)) fun σ H R hz=>xa hz fun F Re k=>⟨F,Re,fun v H2 F2 s2 R2 q=>by
 refine xc q.tup fun a xs e1 sq r=>?_;exact⟨a,e1,⟨xs,Same.tup R2.sub sq⟩,k _ H2 F2 s2 R2 (zup sq r)⟩⟩
theorem DIe.range1 {p:Pos} {n:Int} (hg:Gl X "range") (hm:X.mg "range" = none) (ha:DA X [a] ρ [.int n]) (hs:By a=true) (h1 : -(2^62)<=n) (h2:n<2^62):DIe X tg (.Call (.Name "range" p) [a] [] pos) ρ (zbk 0 n.toNat):=fun H0 Fc=>
 PI.mono (znn hg hm (ha H0 Fc) (B6 hs)) fun σ H R hz=>xa hz fun F Re k=>⟨F,Re,fun vs H2 F2 s2 R2 q=>by
  refine xa q.one fun v e q=>?_;rw [q.int] at e;exact⟨n,e,h1,h2,k _ H2 F2 s2 R2 zco⟩⟩
theorem DIe.range2 {p:Pos} {m n:Int} (hg:Gl X "range") (hm:X.mg "range" = none) (ha:DA X [a,b] ρ [.int m,.int n]) (hs:By a=true) (hs2:By b=true) (h : -(2^62)<=m/\m<2^62 /\ -(2^62)<=n/\n<2^62) :
  DIe X tg (.Call (.Name "range" p) [a,b] [] pos) ρ (zbk m (n-m).toNat):=fun H0 Fc=>
 PI.mono (znm hg hm (ha H0 Fc) (by rw [B6 hs,B6 hs2];rfl) (by rw [B6 hs2];rfl)) fun σ H R hz=>xa hz fun F Re k=>⟨F,Re,fun vs H2 F2 s2 R2 q=>by
  refine xc q.two fun v u e q1 q2=>?_;rw [q1.int,q2.int] at e;exact⟨m,n,e,h,k _ H2 F2 s2 R2 zco⟩⟩
theorem ER.set {K:PySem.W.Frag} {H0 Fc F H:Hp} {σ:L2.St} (R:ER K H0 Fc F H σ ρ) {i:Nat} {v:V} (q:Den K F d v) (hi:i<ρ.length) (hs:i<σ.length):ER K H0 Fc F H (σ.set i (some v)) (ρ.set i (some d)):=
 ⟨R.sub,R.same,R.base,R.new,fun j d' e=>by
  by_cases hj:j=i
  ·subst hj;rw [Y9 hi] at e;cases e;exact⟨v,Y9 hs,q⟩
  ·rw [Yp (Wk hj)] at e |-;exact R.env j d' e⟩
theorem DGe.name {i:Nat} {x:Str} (hN:X.N.Nodup) (hi:X.N[i]? = some x) (hx:X.env.scope.names.lookup x=some .local) (hl:i<ρ.length):DGe X (.Name x pos) d ρ (ρ.set i (some d)):=fun H0 Fc=>
 PG.mono (zwn hN hi (.inl hx) (.inr hx)) fun v σ H Q hz=>xF hz fun hlen F R q k=>k _ (by rw [Wh];exact hlen) (R.set q hl (by rw [hlen];exact (Zn.mp hi).1))
def DGse (X:Cx) (tg:List Expr) (ds:List D) (ρ ρ':Rho):Prop:=∀ H0 Fc,PGs X tg (fun vs σ H Q=>σ.length=X.N.length/\∃ F,ER X.K H0 Fc F H σ ρ/\DenL X.K F ds vs/\∀ σ',σ'.length=X.N.length->ER X.K H0 Fc F H σ' ρ'->Q σ' H)
theorem DGse.nil:DGse X [] [] ρ ρ:=fun H0 Fc=>PGs.mono zwm fun vs σ H Q hz=>xF hz fun hl F S q k=>⟨q.inv_nil,k σ hl S⟩
theorem DGse.cons (h1:DGe X t d ρ ρ') (h2:DGse X ts ds ρ' ρ2) (hs:By t=true):DGse X (t::ts) (d::ds) ρ ρ2:=fun H0 Fc=>
 PGs.mono (zrg (h1 H0 Fc) (h2 H0 Fc) (by rw [zbi hs];rfl)) fun vs σ H Q hz=>xF hz fun hl F S q k=>by
  refine xc q.inv_cons fun v r e q1 q2=>?_;exact⟨v,r,e,hl,F,S,q1,fun σ' hl' S'=>⟨hl',F,S',q2,k⟩⟩
theorem DGe.tup {k} (hc:X.calm=true) (h:DGse X ts ds ρ ρ') (hs:ts.all By=true) (hl:ds.length=ts.length):DGe X (.Tuple ts k pos) (.tup ds) ρ ρ':=fun H0 Fc=>
 PG.mono (yfm (n:=ts.length) hc (h H0 Fc) (zal hs).1 (zal hs).2) fun v σ H Q hz=>xF hz fun hln F S q k=>by
  refine xc q.tup fun a xs e sq r=>?_;exact⟨a,xs,e,Same.tup S.sub sq,by rw [r.length];exact hl,hln,F,S,r,k⟩
structure CompOk (X:Cx) (scope:Scope) (ts frees:List Str) (fr:List Nat):Prop where
 kind:scope.kind=.function
 cell:∀ y∈scope.names,y.2 ≠ .cell
 names:∀ y∈scope.names,y.2=.local->scope.names.lookup y.1=some .local
 all:∀ y∈scope.names,y.2=.free->X.env.kindOf y.1=some .cell
 free:∀ (m:Nat) (x:Str),frees[m]? = some x->scope.names.lookup x=some .free/\X.env.kindOf x=some .cell/\∃ j:Nat,fr[m]? = some j/\X.N[j]? = some x
 len:fr.length=frees.length
def yey (X:Cx) (scope:Scope) (N':List Str) (X':Cx):Prop:=∃ cl C s₀ H₀ ex,X'=blk X scope cl C N' s₀ H₀ ex
theorem zhe {pins:List (Addr×Obj)} {s:Shared} {σ:L2.St} {H:Hp} {scope:Scope} {ts frees:List Str} {fr:List Nat} (I:Inv X pins σ H s) (hC:CompOk X scope ts frees fr):∀ y∈scope.names,y.2=.free->∃ c,X.env.cells.lookup y.1=some c:=
 fun y hy hf=>I.ok.has y.1 (.inl (hC.all y hy hf))
theorem DE.comp {elt iter:Expr} {ifs:List Expr} {scope:Scope} {ts frees:List Str} {fr:List Nat} {items res:List D} {f:D->Option (Option D)} (hcalm:X.calm=true) (hC:CompOk X scope ts frees fr) (hi:DIe X tg iter ρ items) (hs:∀ x,foldedSetIterable iter X.env x=pure x)
  (hsz:items.length<=sizeLine) (hres:zdk f items=some res)
  (hblk:∀ (X':Cx),yey X scope (ts++frees) X'->∀ (d:D) (o:Option D),d∈items->f d=some o->∃ ρd,DGe X' tg d (blkR ts.length fr ρ) ρd/\(∀ (i:Nat) d,(blkR ts.length fr ρ)[i]? = some (some d)->ρd[i]? = some (some d)) /\
   (match o with | none=>DTs X' ifs ρd false | some e=>DTs X' ifs ρd true/\DF X' elt ρd e)) :
  DE X (.ListComp elt [⟨tg,iter,ifs,0⟩] scope pos) ρ (.new res):=by
 intro H0 Fc pins s σ H Q I ⟨F,R,k⟩;rw [eval_ListComp];refine Gx (use:=none) rfl hs (ygr (zhe I hC)) hC.kind hC.names (thn (hi H0 Fc pins s σ H (fun J H'=>∃ F',Same F F'/\ER X.K H0 Fc F' H' σ ρ/\Walks X.K F' J items) I ⟨F,R,fun J H' F' s' R' wk=>⟨F',s',R',wk⟩⟩) fun v s1 h1=>thn h1 fun itv s2 h2=>?_);obtain⟨it,fp,tn,J,H1,e1,I2,T,tn0,hfp,F1,sF1,R1,wk⟩:=h2
 subst e1;refine zki (K:=X.K) rfl (σ':=blkR ts.length fr σ) (ρ0:=blkR ts.length fr ρ) (N':=ts++frees) I2 hcalm T tn0 hfp hC.kind hC.cell (zhe I hC) R1 ?_ ?_ ?_ wk hsz hres (fun C s₀ H₀ d o hd ho=>hblk _ ⟨_,C,s₀,H₀,fp,rfl⟩ d o hd ho) ?_
 ·rw [zsq,Zs,hC.len]
 ·intro i d e;refine xc (zef e) fun m j e1 e2 e3=>?_;refine xa (R1.env j d e3) fun v g1 g2=>?_;subst e1;exact⟨v,zzf e2 g1,g2⟩
 ·intro i x v e1 e2;refine xc (zef e2) fun m j e3 e4 e5=>?_;subst e3;rw [Zx (by omega),show ts.length+m-ts.length=m by omega] at e1;refine vd (hC.free m x e1) fun g1 g2 j' g3 g4=>?_;rw [e4] at g3;cases g3;exact⟨g1,g2,j,g4,e5⟩
 ·intro D C s5 H' F' ys m I5 hns hCn hCL hCs hCc hCp sF' R' hFD h0D hD dn;refine⟨m,hns,fun h' sb=>⟨.ref D,H',I5.turned (t':=s5.toks) (fun b o hb e=>sb.extBut b o hb e) hCn hCL (.inr hCs) hCc hCp,rfl,k _ H' F' (sF1.trans sF') R' (RW.n hFD h0D hD dn)⟩⟩
theorem DS.asgComp {i:Nat} {x:Str} {px spos:Pos} {elt iter:Expr} {ifs:List Expr} {scope:Scope} {ts frees:List Str} {fr:List Nat} {items res:List D} {f:D->Option (Option D)} {ρ:RhoS} (hN:X.N.Nodup) (hi':X.N[i]? = some x) (hx:Loc X.env.scope x) (hf:X.fn x=true\/X.env.scope.names.lookup x=some .local) (hl:i<ρ.length)
  (hsw:swapsWith (.ListComp elt [⟨tg,iter,ifs,0⟩] scope pos) (some (.Name x px)) spos.line X.env=pure true)
  (hcalm:X.calm=true) (hC:CompOk X scope ts frees fr) (hi:DIe X tg iter (view ρ) items) (hs:∀ x,foldedSetIterable iter X.env x=pure x)
  (hsz:items.length<=sizeLine) (hres:zdk f items=some res)
  (hblk:∀ (X':Cx),yey X scope (ts++frees) X'->∀ (d:D) (o:Option D),d∈items->f d=some o->∃ ρd,DGe X' tg d (blkR ts.length fr (view ρ)) ρd/\(∀ (i:Nat) d,(blkR ts.length fr (view ρ))[i]? = some (some d)->ρd[i]? = some (some d)) /\
   (match o with | none=>DTs X' ifs ρd false | some e=>DTs X' ifs ρd true/\DF X' elt ρd e)) :
  DS X (.Assign [.Name x px] (.ListComp elt [⟨tg,iter,ifs,0⟩] scope pos) spos) ρ (.nx ((after (.new res) ρ).set i (some (.ow res)))):=by
 intro H0 Fc pins s σ H D I ⟨F,S,k⟩;refine xg S.borrow fun s0 R=>?_;rw [exec_Assign_Name_used _ _ _ _ hsw];refine Zc (J1 (Zc ?_));show wpAny _ X.A (do let _ <- comprehension (.ListComp elt [⟨tg,iter,ifs,0⟩] scope pos) scope X.env _ (newList []) false (eval iter X.env) (some (assign (.Name x px) X.env))) _ _ s;refine Zc (K7 (Gx (use:=some (assign (.Name x px) X.env)) (Q:=fun _ s'=>SP X pins D .next s') rfl hs (ygr (zhe I hC)) hC.kind hC.names (thn (hi H0 Fc pins s σ H (fun J H'=>∃ F',Same (DL.borrow F H σ ρ) F'/\ER X.K H0 Fc F' H' σ (view ρ)/\Walks X.K F' J items) I ⟨_,R,fun J H' F' s' R' wk=>⟨F',s',R',wk⟩⟩) fun v s1 h1=>thn h1 fun itv s2 h2=>?_)) (fun _ s' hq=>Zi (Zi hq)) fun _ _ e=>e);obtain⟨it,fp,tn,J,H1,e1,I2,T,tn0,hfp,F1,sF1,R1,wk⟩:=h2
 subst e1;refine zki (K:=X.K) rfl (σ':=blkR ts.length fr σ) (ρ0:=blkR ts.length fr (view ρ)) (N':=ts++frees) I2 hcalm T tn0 hfp hC.kind hC.cell (zhe I hC) R1 ?_ ?_ ?_ wk hsz hres (fun C s₀ H₀ d o hd ho=>hblk _ ⟨_,C,s₀,H₀,fp,rfl⟩ d o hd ho) ?_
 ·rw [zsq,Zs,hC.len]
 ·intro i d e;refine xc (zef e) fun m j e1 e2 e3=>?_;refine xa (R1.env j d e3) fun v g1 g2=>?_;subst e1;exact⟨v,zzf e2 g1,g2⟩
 ·intro i x v e1 e2;refine xc (zef e2) fun m j e3 e4 e5=>?_;subst e3;rw [Zx (by omega),show ts.length+m-ts.length=m by omega] at e1;refine vd (hC.free m x e1) fun g1 g2 j' g3 g4=>?_;rw [e4] at g3;cases g3;exact⟨g1,g2,j,g4,e5⟩
 ·intro Da C s5 H' F' ys m I5 hns hCn hCL hCs hCc hCp sF' R' hFD h0D hD dn;have q:RW X.K H0 F' H' (.new res) (.ref Da):=RW.n hFD h0D hD dn;refine xh (S.after (sF1.trans sF') R' q) fun F3 s3 S3 q3=>?_;refine wpAny_assign_Name (zmt I5 hN hi' hx (v:=.ref Da) (u:=.ref Da) rfl (fun s6 I6 hz=>xa hz fun a6 sb6 ha6=>⟨m,?_,fun h' sb=>?_⟩) hf)
  ·refine hns.sameBut sb6 (fun z=>?_);rcases ha6 with w | w
   ·exact hCL (z.trans w)
   ·exact hCc x a6 w z.symm
  ·refine⟨_,H',I6.turned (t':=s6.toks) (fun b o hb e=>sb.extBut b o hb e) hCn hCL (.inr hCs) hCc hCp,k _ H' F3 s3 (S3.bind q3 ?_ (Owned.not_after S (sF1.trans sF') q))⟩
   rw [<- S3.len,S.len];exact hl
end
end DL
namespace DL
open PySem L2 PyProof.Rows
structure TC where
 N:List Str
 sc:Scope
 fns:List (Str×Nat×Nat)
 rzs:List (Str×Nat×Nat)
 xs:Bool
def ixOf (x:Str):List Str->Option Nat
 | []=>none
 | y::l=>if x=y then some 0 else (ixOf x l).map (· + 1)
theorem zff {x:Str}:∀ {l:List Str} {i:Nat},ixOf x l=some i->l[i]? = some x
 | [],_,h=>by cases h
 | y::l,i,h=>by
  unfold ixOf at h;by_cases e:x=y
  ·rw [if_pos e] at h;cases h;simp [e]
  ·rw [if_neg e] at h;refine xa (Zb.mp h) fun j hj e2=>?_;subst e2;simpa using zff hj
def slot (c:TC) (x:Str):Option Nat:=
 if (x == ("__debug__" : Str))=true\/(x == ("__classdict__" : Str))=true then none else match c.sc.names.lookup x with
  | some .local=>ixOf x c.N
  | some .cell=>ixOf x c.N
  | _=>none
def isGl (c:TC) (x:Str):Bool:=!(x == ("__debug__" : Str)) && decide (c.sc.names.lookup x=some .globalImplicit)
def trOp:Operator->Option Op
 | .Add=>some .add
 | .Sub=>some .sub
 | .Mult=>some .mul
 | .FloorDiv=>some .fdiv
 | .Mod=>some .mod
 | .Pow=>some .pow
 | _=>none
def trCm:CmpOp->Option Cm
 | .Lt=>some .lt
 | .LtE=>some .le
 | .Gt=>some .gt
 | .GtE=>some .ge
 | .Eq=>some .eq
 | .NotEq=>some .ne
 | .Is=>some .isN
 | .IsNot=>some .notN
 | .In=>some .isin
 | .NotIn=>some .notin
def trTy (x:Str):Option Ty:=
 if x=Str.ofString Ty.int.nm then some .int else if x=Str.ofString Ty.bool.nm then some .bool else if x=Str.ofString Ty.tuple.nm then some .tuple else if x=Str.ofString Ty.list.nm then some .list else none
def Bi.nm:Bi->String
 | .len => "len" | .abs => "abs" | .min => "min" | .max => "max"
def trBi (x:Str):Option Bi:=if x=Str.ofString Bi.len.nm then some .len else if x=Str.ofString Bi.abs.nm then some .abs else if x=Str.ofString Bi.min.nm then some .min else if x=Str.ofString Bi.max.nm then some .max else none
inductive Hd where
 | fn (f n:Nat) | bi (b:Bi) | isi | lst | no
def zfg (c:TC) (x:Str):Hd:=
 if isGl c x=true then match c.fns.lookup x with
  | some (f,n)=>.fn f n
  | none=>match trBi x with
   | some b=>.bi b
   | none=>if x=("isinstance" : Str) then .isi else if x=("list" : Str) then .lst else .no
 else .no
def locs (sc:Scope):List Str:=sc.names.filterMap fun y=>if y.2=NameKind.local then some y.1 else none
def frs' (sc:Scope):List Str:=sc.names.filterMap fun y=>if y.2=NameKind.free then some y.1 else none
def relS (scope sc:Scope):Scope:={scope with names:=scope.names.map fun (n,k)=>if (k == NameKind.free && sc.kind == .function && sc.names.lookup n == some .cell)=true then (n,NameKind.cell) else (n,k)}
def frIx (N:List Str):List Str->Option (List Nat)
 | []=>some []
 | x::l=>(ixOf x N).bind fun i=>(frIx N l).map fun r=>i::r
def zue (c:TC) (scope:Scope):Bool:=
 decide (scope.kind=.function) && scope.names.all (fun y=>decide (y.2 ≠ .cell)) && scope.names.all (fun y=>decide (y.2=.local->scope.names.lookup y.1=some .local)) &&
 scope.names.all (fun y=>decide (y.2=.free->c.sc.names.lookup y.1=some .cell/\scope.names.lookup y.1=some .free)) && decide ((locs scope++frs' scope).Nodup) && decide (c.sc.kind=.function)
def isTup:Expr->Bool
 | .Tuple _ _ _=>true
 | _=>false
def ydg:Expr->Bool
 | .Set _ _ _=>true
 | _=>false
def isB (c:TC) (x:Str) (y:String):Bool:=isGl c x && (c.fns.lookup x).isNone && decide (x=Str.ofString y)
def fmN (c:TC) (x:Str):List Expr->Option (Fm×List Expr)
 | [.Call (.Name y _) (a::as) [] _]=>if isB c x "sorted" = true/\isB c y "set" = true then some (.ss,a::as) else if isB c x "list" = true/\isB c y "reversed" = true then some (.rev,a::as) else if isB c x "list" = true/\isB c y "zip" = true then some (.zip,a::as) else none
 | _=>none
def fmT (c:TC) (x:Str):List Expr->Option (Fm×List Expr)
 | [a]=>if isB c x "tuple" = true then some (.tupl,[a]) else none
 | _=>none
def fmOf (c:TC) (x:Str) (es:List Expr):Option (Fm×List Expr):=match fmN c x es with
 | some r=>some r
 | none=>fmT c x es
def trI1 (rE:Expr->Option E) (c:TC) (tg:Expr):Expr->Option It'
 | .Call (.Name x p) [a] [] q=>if isB c x "range" = true/\By a=true then (rE a).map It'.range1 else (rE (.Call (.Name x p) [a] [] q)).map It'.seq
 | .Call (.Name x p) [a,b] [] q=>if isB c x "range" = true/\By a=true/\By b=true then (rE a).bind fun a'=>(rE b).map fun b'=>It'.range2 a' b' else (rE (.Call (.Name x p) [a,b] [] q)).map It'.seq
 | .Name x _=>(slot c x).map It'.seqV
 | e=>if ydg e=false then (rE e).map It'.seq else none
def ybn (c:TC) (x:Str):Option Nat:=if c.sc.names.lookup x=some .local then ixOf x c.N else none
def zna (c:TC):List Expr->Option (List Nat)
 | []=>some []
 | .Name x _::es=>(ybn c x).bind fun i=>(zna c es).map fun l=>i::l
 | _=>none
def ybb (c:TC):Expr->Option Tg
 | .Name x _=>(ybn c x).map Tg.name
 | .Tuple es _ _=>(zna c es).map Tg.tup
 | _=>none
def blkC (c:TC) (scope:Scope):TC:=⟨locs scope++frs' scope,relS scope c.sc,c.fns,c.rzs,c.xs⟩
def znl:Expr->Bool
 | .Name _ _=>true
 | .Constant _ _ _=>true
 | .Call _ _ _ _=>true
 | .Subscript _ _ _=>true
 | _=>false
def yhf (rE:Expr->Option E) (p:Pos):List Expr->Option E
 | [a]=>rE a
 | a::b::es=>(rE a).bind fun a'=>(rE (.BoolOp .And (b::es) p)).map fun b'=>.and a' b'
 | []=>none
def trOr (rE:Expr->Option E) (p:Pos):List Expr->Option E
 | [a]=>rE a
 | a::b::es=>(rE a).bind fun a'=>(rE (.BoolOp .Or (b::es) p)).map fun b'=>.or a' b'
 | []=>none
def trB (rE:Expr->Option E) (p:Pos) (es:List Expr):BoolOp->Option E
 | .And=>yhf rE p es
 | .Or=>trOr rE p es
def trCp (rE:Expr->Option E) (a:Expr):List CmpOp->List Expr->Option E
 | [op],[b]=>if behindInMarks op b=false then (trCm op).bind fun o=>(rE a).bind fun a'=>(rE b).map fun b'=>.cmp o a' b' else none
 | _,_=>none
def trN (rT:Expr->Option E) (a:Expr):UnaryOp->Option E
 | .Not=>(rT a).map E.not
 | _=>none
def trT1 (rE:Expr->Option E) (rT:Expr->Option E):Expr->Option E
 | .UnaryOp o a _=>trN rT a o
 | .BoolOp o es p=>trB rT p es o
 | .Compare a ops bs _=>trCp rE a ops bs
 | e=>if znl e=true then rE e else none
def zvf (rT:Expr->Option E):List Expr->Option EO
 | []=>some .non
 | [c]=>(rT c).map EO.som
 | _=>none
def trK:Const->Option E
 | .int i=>some (.int i)
 | .bool b=>some (.bl b)
 | .none=>some .non
 | _=>none
def trU (rE:Expr->Option E) (a:Expr):UnaryOp->Option E
 | .USub=>(rE a).map E.neg
 | .Not=>(rE a).map E.not
 | _=>none
def trLC (rC:TC->Expr->Option E) (rT:TC->Expr->Option E) (rE:Expr->Option E) (c:TC) (elt:Expr) (scope:Scope):List Comprehension->Option E
 | [⟨tg,iter,ifs,0⟩]=>if zue c scope=true then (trI1 rE c tg iter).bind fun it=>(ybb (blkC c scope) tg).bind fun t=>(frIx c.N (frs' scope)).bind fun fr=>
   (rC (blkC c scope) elt).bind fun e=>(zvf (rT (blkC c scope)) ifs).map fun k=>.comp e t it (locs scope).length fr k else none
 | _=>none
def trSb (rE:Expr->Option E) (rO:Option Expr->Option EO) (a:Expr):Expr->Option E
 | .Slice lo hi none _=>(rE a).bind fun a'=>(rO lo).bind fun l=>(rO hi).map fun h=>.sl a' l h
 | b=>if zeb b=true then (rE a).bind fun a'=>(rE b).map fun b'=>.ix a' b' else none
def zvg (rE:Expr->Option E) (rEs:List Expr->Option Es) (c:TC) (x:Str) (e:Expr) (es:List Expr):Option E:=match fmOf c x (e::es) with
  | some (f,as)=>(rEs as).map (E.fm f)
  | none=>match zfg c x with
  | .fn f k=>if (e::es).length=k then (rEs (e::es)).map (E.call f) else none
  | .bi b=>(rEs (e::es)).map (E.bi b)
  | .isi=>match es with
   | [.Name y _]=>if isGl c y=true/\By e=true then (match trTy y with
     | some t=>(rE e).map fun e'=>.isi e' t
     | none=>none) else none
   | _=>none
  | .lst=>match es with
   | []=>if By e=true then (rE e).map E.lcp else none
   | _=>none
  | .no=>none
def trE1 (rC:TC->Expr->Option E) (rT:TC->Expr->Option E) (rE:Expr->Option E) (rEs:List Expr->Option Es) (rO:Option Expr->Option EO) (c:TC):Expr->Option E
 | .Name x _=>(slot c x).map E.var
 | .Constant k _ _=>trK k
 | .BinOp a op b _=>(trOp op).bind fun o=>(rE a).bind fun a'=>(rE b).map fun b'=>.bin o a' b'
 | .UnaryOp o a _=>trU rE a o
 | .BoolOp o es p=>trB rE p es o
 | .Compare a ops bs _=>trCp rE a ops bs
 | .Tuple es _ _=>(rEs es).map E.tup
 | .List es _=>(rEs es).map E.lst
 | .ListComp elt gs scope _=>trLC rC rT rE c elt scope gs
 | .Subscript a b _=>trSb rE rO a b
 | .Call (.Name x _) (e::es) [] _=>zvg rE rEs c x e es
 | _=>none
mutual
def trE:Nat->TC->Expr->Option E
 | 0,_,_=>none
 | n+1,c,e=>trE1 (trE n) (trT n) (trE n c) (trEs n c) (trO n c) c e
def trEs:Nat->TC->List Expr->Option Es
 | 0,_,_=>none
 | n+1,c,[]=>some .nil
 | n+1,c,e::es=>if By e=true then (trE n c e).bind fun e'=>(trEs n c es).map fun l=>.cons e' l else none
def trO:Nat->TC->Option Expr->Option EO
 | 0,_,_=>none
 | n+1,c,none=>some .non
 | n+1,c,some e=>(trE n c e).map EO.som
def trT:Nat->TC->Expr->Option E
 | 0,_,_=>none
 | n+1,c,e=>trT1 (trE n c) (trT n c) e
end
theorem znk {e:Expr} {env:Env} (h:znl e=true):∀ whole,isTrue e env whole=(do let v <- whole;standAt e.pos;holding [v] (truthy v)):=fun whole=>by
 cases e <;> first | rfl | (cases h;done)
abbrev zct:List Str:=[Str.ofString "len", Str.ofString "abs", Str.ofString "isinstance", Str.ofString "int", Str.ofString "bool", Str.ofString "tuple", Str.ofString "list", Str.ofString "range", Str.ofString "enumerate", Str.ofString "min", Str.ofString "max", Str.ofString "sorted", Str.ofString "set", Str.ofString "reversed", Str.ofString "zip", Str.ofString "sum"]
structure XE (X:Cx) (c:TC) (Γ:Nat->List D->Option W):Prop where
 hN:X.N=c.N
 hsc:X.env.scope=c.sc
 nd:c.N.Nodup
 calm:X.calm=true
 kind:X.env.scope.kind=.function
 calls:∀ x f n,c.fns.lookup x=some (f,n)->ygu X x n (Γ f)
 xf:c.xs=true->XFacts X.K X.mg
 un:X.A.units+64<cLine
 blt:∀ x∈zct,X.mg x=none
structure XC (X:Cx) (c:TC) (Γ:Nat->List D->Option W):Prop extends XE X c Γ where
 fn:∀ x,X.fn x=true
 po:PassesOwn (model X.prog X.w) X.A X.env X.xe
 rz:∀ x f n,c.rzs.lookup x=some (f,n)->yly X x n (Γ f)
 st:X.stack=X.env::X.outer
 fr:X.env.frame=some X.env.locals
 nx:X.nox=X
section
variable {X:Cx} {c:TC} {Γ:Nat->List D->Option W}
theorem zbf (hX:XE X c Γ) {x:Str} {i:Nat} (h:slot c x=some i):X.N[i]? = some x/\Loc X.env.scope x/\(x == ("__debug__" : Str))=false/\(x == ("__classdict__" : Str))=false:=by
 unfold slot at h;by_cases z:(x == ("__debug__" : Str))=true\/(x == ("__classdict__" : Str))=true
 ·rw [if_pos z] at h;cases h
 ·rw [if_neg z] at h;have z1:(x == ("__debug__" : Str))=false:=by
   cases q:(x == ("__debug__" : Str)) with
   | false=>rfl
   | true=>exact absurd (.inl q) z
  have z2:(x == ("__classdict__" : Str))=false:=by
   cases q:(x == ("__classdict__" : Str)) with
   | false=>rfl
   | true=>exact absurd (.inr q) z
  split at h
  ·rename_i e;exact⟨by rw [hX.hN];exact zff h,by rw [hX.hsc];exact .inl e,z1,z2⟩
  ·rename_i e;exact⟨by rw [hX.hN];exact zff h,by rw [hX.hsc];exact .inr e,z1,z2⟩
  ·cases h
theorem Loc.vis {sc:Scope} {x:Str} (h:Loc sc x):Vis sc x:=by
 rcases h with h | h
 ·exact .inl h
 ·exact .inr (.inl h)
theorem zge (hX:XE X c Γ) {x:Str} (h:isGl c x=true):Gl X x/\(x == ("__debug__" : Str))=false:=by
 unfold isGl at h;rw [Zq] at h;refine⟨?_,by simpa using h.1⟩
 show X.env.scope.names.lookup x=_;rw [hX.hsc];exact of_decide_eq_true h.2
theorem zhp {ρ:Rho} {i:Nat} {d:D} (h:varD ρ i=some d):ρ[i]? = some (some d):=by
 unfold varD at h;split at h
 ·rename_i e;cases h;exact e
 ·cases h
theorem zdv {d:D} {i:Int} (h:dInt d=some i):d=.int i:=by
 cases d <;> first | (cases h;rfl) | (cases h;done)
theorem zud {d:D} {i:Bool} (h:zdb d=some i):d=.bl i:=by
 cases d <;> first | (cases h;rfl) | (cases h;done)
theorem zpj {o:Option W} {d:D} (h:o.map W.d=some d):∃ w,o=some w/\w.d=d:=Zb.mp h
theorem yac {f:Int->Int->Option W} {x y:D} {w:W} (h:arW f x y=some w):∃ a b,x=.int a/\y=.int b/\f a b=some w:=by
 unfold arW at h;split at h
 ·exact⟨_,_,rfl,rfl,h⟩
 ·cases h
theorem op_ok {e1 e2:Expr} {op:Operator} {o:Op} {x y:D} {w:W} {ρ:Rho} {pos:Pos} (ho:trOp op=some o) (ha:DF X e1 ρ x) (hb:DF X e2 ρ y) (h:opW o x y=some w):DE X (.BinOp e1 op e2 pos) ρ w:=by
 have bits:∀ {a:Int} {n:Nat},a.natAbs<2^n->Builtin.Int.intBits a<=n:=fun {a n} h=>by
  unfold Builtin.Int.intBits;by_cases z:a=0
  ·rw [if_pos (by simpa using z)];exact Yc _
  ·rw [if_neg (by simpa using z)];have:=(Nat.log2_lt (by omega)).mpr h
   omega
 cases op <;> first | (cases ho;done) | skip
 all_goals cases ho
 ·change addW x y=some w at h
  unfold addW at h;split at h
  ·cases h;exact DE.opI0 op_add ha hb fun K F=>Den.int_mk
  ·rename_i l m;by_cases q:l.length+m.length<=sizeLine
   ·rw [if_pos q] at h;cases h;exact DE.cat ha hb q
   ·rw [if_neg q] at h;cases h
  ·cases h
 ·refine xc (yac h) fun i j qz2 qz3 h'=>?_;subst qz2;subst qz3
  clear h;have h:=h';clear h';cases h;exact DE.opI0 op_sub ha hb fun K F=>Den.int_mk
 ·refine xc (yac h) fun i j qz2 qz3 h'=>?_;subst qz2;subst qz3
  clear h;have h:=h';clear h';by_cases q:zap i j=true
  ·rw [if_pos q] at h;cases h;unfold zap at q;rw [Zq] at q;have q1:=of_decide_eq_true q.1;have q2:=of_decide_eq_true q.2;exact DE.opI (C:=IntMulOk) (L2.opI fun _ _ _ _ _ _ _ hc q=>mul_int q hc) ha hb (PySem.IntMulOk.of_bits (Yn (bits q1) (by decide)) (Yn (bits q2) (by decide))) fun K F=>Den.int_mk
  ·rw [if_neg q] at h;cases h
 ·refine xc (yac h) fun i j qz2 qz3 h'=>?_;subst qz2;subst qz3
  clear h;have h:=h';clear h';by_cases q:j=0
  ·rw [if_pos q] at h;cases h
  ·rw [if_neg q] at h;cases h;exact DE.opI yiz ha hb q fun K F=>Den.int_mk
 ·refine xc (yac h) fun i j qz2 qz3 h'=>?_;subst qz2;subst qz3
  clear h;have h:=h';clear h';by_cases q:zlb i j=true
  ·rw [if_pos q] at h;cases h;unfold zlb at q;rw [Zq,Zq] at q;have q1:=of_decide_eq_true q.1.1;have q2:=of_decide_eq_true q.1.2;have q3:=of_decide_eq_true q.2;exact DE.opI op_pow ha hb ⟨q1,by omega,q3⟩ fun K F=>Den.int_mk
  ·rw [if_neg q] at h;cases h
 ·refine xc (yac h) fun i j qz2 qz3 h'=>?_;subst qz2;subst qz3
  clear h;have h:=h';clear h';by_cases q:zdj j=true
  ·rw [if_pos q] at h;cases h;unfold zdj at q;rw [Zq] at q;have q1:=of_decide_eq_true q.1;have q2:=of_decide_eq_true q.2;refine DE.opI (C:=fun i j=>j≠0/\j.natAbs<2^9000) (L2.opI fun _ _ _ _ _ _ _ hc q=>floordiv_int hc.1 q (.inl (PyProof.noPylong_of_log2 ?_))) ha hb ⟨q1,q2⟩ fun K F=>Den.int_mk
   refine (Nat.log2_lt ?_).mpr hc.2;have:=hc.1
   omega
  ·rw [if_neg q] at h;cases h
end
end DL
namespace DL
open PySem L2 PyProof.Rows
section
variable {X:Cx} {c:TC} {Γ:Nat->List D->Option W}
theorem two_of {a b:Bool} (h:(a && b)=true):a=true/\b=true:=by simpa using h
theorem zrm {f:Int->Int->Bool} {x y:D} {k:Bool} (h:ordO f x y=some k):∃ a b,x=.int a/\y=.int b/\f a b=k:=by
 unfold ordO at h;split at h
 ·cases h;exact⟨_,_,rfl,rfl,rfl⟩
 ·cases h
theorem inO_s {x y:D} {k:Bool} (h:inO x y=some k):∃ l,y=.lst l/\dOk 50 x=true/\dOkL 49 l=true/\(l.any fun y=>eqD y x)=k:=by
 unfold inO at h;split at h
 ·split at h
  ·rename_i q;cases h;exact⟨_,rfl,(two_of q).1,(two_of q).2,rfl⟩
  ·cases h
 ·cases h
theorem yfr {x y:D} {k:Bool} (h:nonO x y=some k):y=.non/\zoa x=k:=by
 unfold nonO at h;split at h
 ·cases h;exact⟨rfl,rfl⟩
 ·cases h
theorem ygl {x y:D} {k:Bool} (hu:X.A.units+64<cLine) (h:eqO x y=some k):zde X .Eq x y k/\zde X .NotEq x y (!k):=by
 have dl:∀ {l:List D},dOkL 49 l=true->dOk 50 (.lst l)=true:=fun q=>by simp only [dOk];exact q
 have dt:∀ {l:List D},dOkL 49 l=true->dOk 50 (.tup l)=true:=fun q=>by simp only [dOk];exact q
 unfold eqO at h;split at h
 ·cases h;exact⟨yky,yku⟩
 ·cases h;exact⟨ykz,ykv⟩
 ·split at h
  ·rename_i q;cases h;have z:=zyx (X:=X) hu (dt (two_of q).1) (dt (two_of q).2);have z2:=zyw (X:=X) hu (dt (two_of q).1) (dt (two_of q).2);simp only [eqD] at z z2;exact⟨z,z2⟩
  ·cases h
 ·split at h
  ·rename_i q;cases h;have z:=zyx (X:=X) hu (dl (two_of q).1) (dl (two_of q).2);have z2:=zyw (X:=X) hu (dl (two_of q).1) (dl (two_of q).2);simp only [eqD] at z z2;exact⟨z,z2⟩
  ·cases h
 ·cases h
theorem ygq {op:CmpOp} {o:Cm} {x y:D} {k:Bool} (hu:X.A.units+64<cLine) (ho:trCm op=some o) (h:cmpD o x y=some k):zde X op x y k:=by
 cases op <;> first | (cases ho;done) | skip
 all_goals cases ho
 ·exact (ygl hu h).1
 ·refine xa (Zb.mp h) fun j hj e=>?_;subst e;exact (ygl hu hj).2
 ·refine xc (zrm h) fun a b qz2 qz3 qz4=>?_;subst qz2;subst qz3;subst qz4
  exact cmp_lt
 ·refine xc (zrm h) fun a b qz2 qz3 qz4=>?_;subst qz2;subst qz3;subst qz4
  exact cmp_le
 ·refine xc (zrm h) fun a b qz2 qz3 qz4=>?_;subst qz2;subst qz3;subst qz4
  exact cmp_gt
 ·refine xc (zrm h) fun a b qz2 qz3 qz4=>?_;subst qz2;subst qz3;subst qz4
  exact cmp_ge
 ·refine xg (yfr h) fun qz0 qz1=>?_;subst qz0;subst qz1
  exact ykw
 ·refine xa (Zb.mp h) fun j hj e=>?_;subst e;refine xg (yfr hj) fun qz0 qz1=>?_;subst qz0;subst qz1
  exact ydx
 ·refine vi (inO_s h) fun l qz1 h1 h2 qz4=>?_;subst qz1;subst qz4
  exact ykx hu h1 h2
 ·refine xa (Zb.mp h) fun j hj e=>?_;subst e;refine vi (inO_s hj) fun l qz1 h1 h2 qz4=>?_;subst qz1;subst qz4
  exact ydy hu h1 h2
theorem zvc {x:Str} {t:Ty} (h:trTy x=some t):x=Str.ofString t.nm:=by
 unfold trTy at h;repeat' split at h
 all_goals first | (cases h;assumption) | (cases h;done)
theorem zvh {x:Str} {t:Bi} (h:trBi x=some t):x=Str.ofString t.nm:=by
 unfold trBi at h;repeat' split at h
 all_goals first | (cases h;assumption) | (cases h;done)
theorem bi_ok {b:Bi} {ds:List D} {w:W} (hc:X.calm=true) (h:biW b ds=some w):zjh X (.builtin b.nm) ds w:=by
 cases b
 ·change lenW ds=_ at h
  unfold lenW at h;split at h
  ·cases h;exact yee
  ·cases h;exact yed
  ·cases h
 ·change absW ds=_ at h
  unfold absW at h;split at h
  ·cases h;exact ylj
  ·cases h
 ·change minW ds=_ at h
  unfold minW at h;split at h
  ·cases h;exact ylh hc
  ·cases h
 ·change maxW ds=_ at h
  unfold maxW at h;split at h
  ·cases h;exact yli hc
  ·cases h
theorem ylg (b:Bi):bootBuiltins (Str.ofString b.nm)=some (.builtin b.nm):=by cases b <;> decide +kernel
theorem zzi (b:Bi):Str.ofString b.nm ≠ "__name__" /\ Str.ofString b.nm∈zct:=by cases b <;> decide +kernel
theorem ygy (b:Ty):Str.ofString b.nm∈zct:=by cases b <;> decide +kernel
theorem zeu:∀ {n:Nat} {es:List Expr} {l:Es},trEs n c es=some l->es.all By=true
 | 0,_,_,h=>by simp only [trEs] at h;cases h
 | n+1,[],_,_=>rfl
 | n+1,e::es,l,h=>by
  simp only [trEs] at h;by_cases q:By e=true
  ·rw [if_pos q] at h;refine xa (Za.mp h) fun e' _ h=>?_;refine xa (Zb.mp h) fun l' h _=>?_;rw [Qb,q,zeu h];rfl
  ·rw [if_neg q] at h;cases h
theorem yke:∀ {l:Es} {ρ:Rho} {ds:List D} {n:Nat} {es:List Expr},trEs n c es=some l->evs Γ l ρ=some ds->ds.length=es.length:=by
 intro l ρ ds n;induction n generalizing l ds with
 | zero=>intro es h;simp only [trEs] at h;cases h
 | succ n ih=>
  intro es h hv;cases es with
  | nil=>
   simp only [trEs] at h;cases h;simp only [evs] at hv;cases hv;rfl
  | cons e es=>
   simp only [trEs] at h;by_cases q:By e=true
   ·rw [if_pos q] at h;refine xa (Za.mp h) fun e' _ h=>?_;refine xa (Zb.mp h) fun l' h3 z=>?_;subst z;simp only [evs] at hv;refine xa (Za.mp hv) fun d _ hv=>?_;refine xa (Zb.mp hv) fun ds' hv3 z=>?_;subst z;rw [Zk,Zk,ih h3 hv3]
   ·rw [if_neg q] at h;cases h
theorem zty {x:Str} (hX:XE X c Γ) (hh:zfg c x=.isi):x=("isinstance" : Str)/\Gl X "isinstance" := by
 unfold zfg at hh;split at hh
 ·rename_i hg;split at hh
  ·cases hh
  ·split at hh
   ·cases hh
   ·split at hh
    ·rename_i ex;subst ex;exact⟨rfl,(zge hX hg).1⟩
    ·split at hh <;> cases hh
 ·cases hh
theorem ztx {x:Str} (hX:XE X c Γ) (hh:zfg c x=.lst):x=("list" : Str)/\Gl X "list" := by
 unfold zfg at hh;split at hh
 ·rename_i hg;split at hh
  ·cases hh
  ·split at hh
   ·cases hh
   ·split at hh
    ·cases hh
    ·split at hh
     ·rename_i ex;subst ex;exact⟨rfl,(zge hX hg).1⟩
     ·cases hh
 ·cases hh
theorem zya {x:Str} {f k:Nat} (hX:XE X c Γ) (hh:zfg c x=.fn f k):c.fns.lookup x=some (f,k)/\Gl X x/\(x == ("__debug__" : Str))=false:=by
 unfold zfg at hh;split at hh
 ·rename_i hg;split at hh
  ·rename_i f' k' hf;cases hh;exact⟨hf,zge hX hg⟩
  ·split at hh
   ·cases hh
   ·split at hh
    ·cases hh
    ·split at hh <;> cases hh
 ·cases hh
theorem zyb {x:Str} {b:Bi} (hX:XE X c Γ) (hh:zfg c x=.bi b):x=Str.ofString b.nm/\Gl X x/\(x == ("__debug__" : Str))=false:=by
 unfold zfg at hh;split at hh
 ·rename_i hg;split at hh
  ·cases hh
  ·split at hh
   ·rename_i b' hb;cases hh;exact⟨zvh hb,zge hX hg⟩
   ·split at hh
    ·cases hh
    ·split at hh <;> cases hh
 ·cases hh
theorem zdt (hX:XE X c Γ) {x:Str} {y:String} (h:isB c x y=true):Gl X x/\x=Str.ofString y:=by
 unfold isB at h;rw [Zq,Zq] at h;exact⟨(zge hX h.1.1).1,of_decide_eq_true h.2⟩
theorem ydl {x:Str} {es as:List Expr} {f:Fm} (h:fmN c x es=some (f,as)):∃ y p2 q2 a as',es=[.Call (.Name y p2) (a::as') [] q2]/\as=a::as'/\((f=.ss/\isB c x "sorted" = true/\isB c y "set" = true)\/(f=.rev/\isB c x "list" = true/\isB c y "reversed" = true)\/(f=.zip/\isB c x "list" = true/\isB c y "zip" = true)):=by
 unfold fmN at h;split at h
 ·split at h
  ·rename_i q;cases h;exact⟨_,_,_,_,_,rfl,rfl,.inl ⟨rfl,q.1,q.2⟩⟩
  ·split at h
   ·rename_i q;cases h;exact⟨_,_,_,_,_,rfl,rfl,.inr (.inl ⟨rfl,q.1,q.2⟩)⟩
   ·split at h
    ·rename_i q;cases h;exact⟨_,_,_,_,_,rfl,rfl,.inr (.inr (⟨rfl,q.1,q.2⟩))⟩
    ·cases h
 ·cases h
theorem ssW_s {ds:List D} {w:W} (h:ssW ds=some w):∃ l ks,ds=[.lst l]/\zlo l=some ks/\ks.length<=63/\w=.new ((ssK ks).map dK):=by
 unfold ssW at h;split at h
 ·refine xa (Za.mp h) fun ks hk h=>?_;split at h
  ·rename_i hn;cases h;exact⟨_,ks,rfl,hk,hn,rfl⟩
  ·cases h
 ·cases h
theorem revW_s {ds:List D} {w:W} (h:revW ds=some w):∃ l,ds=[.lst l]/\w=.new l.reverse:=by
 unfold revW at h;split at h
 ·cases h;exact⟨_,rfl,rfl⟩
 ·cases h
theorem ygz {ds:List D} {w:W} (h:yha ds=some w):∃ l,ds=[.lst l]/\w=.val (.tup l):=by
 unfold yha at h;split at h
 ·cases h;exact⟨_,rfl,rfl⟩
 ·cases h
theorem zipW_s {ds:List D} {w:W} (h:zipW ds=some w):∃ a b,ds=[.lst a,.lst b]/\a.length=b.length/\w=.new (zipD a b):=by
 unfold zipW at h;split at h
 ·split at h
  ·rename_i hn;cases h;exact⟨_,_,rfl,hn,rfl⟩
  ·cases h
 ·cases h
theorem fm_ok (hX:XE X c Γ) {x:Str} {p pos:Pos} {es as:List Expr} {f:Fm} {ds:List D} {w:W} {ρ:Rho} (hf:fmOf c x es=some (f,as)) (hs:as.all By=true) (ha:DA X as ρ ds) (hw:fmW f ds=some w):DE X (.Call (.Name x p) es [] pos) ρ w:=by
 have hu:X.A.units+16<cLine:=by have:=hX.un;omega
 unfold fmOf at hf;split at hf
 ·rename_i r hr;cases hf;refine vp (ydl hr) fun y p2 q2 a as' qz5 qz6 h=>?_;subst qz5;subst qz6
  rw [Qb,Zq] at hs;rcases h with⟨rfl,h1,h2⟩ | ⟨rfl,h1,h2⟩ | ⟨rfl,h1,h2⟩
  ·refine xg (zdt hX h1) fun g1 e1=>?_;refine xg (zdt hX h2) fun g2 e2=>?_;subst e1;subst e2;refine xo (ssW_s hw) fun l0 ks e3 hk hn e4=>?_;subst e3;subst e4;exact DE.nestB (yji hX.calm hu hk hn) g1 (hX.blt _ (by decide +kernel)) (by decide +kernel) (by decide) (by decide) g2 (hX.blt _ (by decide +kernel)) (by decide +kernel) (by decide) (by decide) ha hs.1 hs.2
  ·refine xg (zdt hX h1) fun g1 e1=>?_;refine xg (zdt hX h2) fun g2 e2=>?_;subst e1;subst e2;refine xa (revW_s hw) fun l0 e3 e4=>?_;subst e3;subst e4;exact DE.nestT (ycr hX.calm) g1 (hX.blt _ (by decide +kernel)) (by decide +kernel) (by decide) (by decide) g2 (hX.blt _ (by decide +kernel)) (by decide +kernel) (by decide) (by decide) ha hs.1 hs.2
  ·refine xg (zdt hX h1) fun g1 e1=>?_;refine xg (zdt hX h2) fun g2 e2=>?_;subst e1;subst e2;refine xc (zipW_s hw) fun l0 m0 e3 hn e4=>?_;subst e3;subst e4;exact DE.nestT (ycq hX.calm hn) g1 (hX.blt _ (by decide +kernel)) (by decide +kernel) (by decide) (by decide) g2 (hX.blt _ (by decide +kernel)) (by decide +kernel) (by decide) (by decide) ha hs.1 hs.2
 ·unfold fmT at hf;split at hf
  ·split at hf
   ·rename_i a h1;cases hf;refine xg (zdt hX h1) fun g1 e1=>?_;subst e1;rw [Qb,Zq] at hs;refine xa (ygz hw) fun l0 e3 e4=>?_;subst e3;subst e4;exact DE.ty zzc g1 (hX.blt _ (by decide +kernel)) (by decide +kernel) (by decide) (by decide) ha hs.1 hs.2
   ·cases hf
  ·cases hf
theorem zne {d:D} {l:List D} (h:seqD d=some l):d=.lst l\/d=.tup l:=by
 cases d <;> first | (cases h;done) | (cases h;first | exact .inl rfl | exact .inr rfl)
theorem yhd {rE:Expr->Option E} (hX:XE X c Γ) (iF:∀ {e e' ρ d},rE e=some e'->(ev Γ e' ρ).map W.d=some d->DF X e ρ d) {tg e:Expr} {i:It'} {ρ:Rho} {l:List D} (h:trI1 rE c tg e=some i) (hv:evW Γ i ρ=some l):DIe X tg e ρ l/\ydg e=false:=by
 have iI:∀ {e e' ρ k},rE e=some e'->((ev Γ e' ρ).map W.d).bind dInt=some k->DF X e ρ (.int k):=fun {e e' ρ k} h hv=>by
  refine xa (Za.mp hv) fun d h1 h2=>?_;rw [zdv h2] at h1;exact iF h h1
 have iS:∀ {e e' ρ l},rE e=some e'->evW Γ (.seq e') ρ=some l->DIe X tg e ρ l:=fun {e e' ρ l} h hv=>by
  simp only [evW] at hv;refine xa (Za.mp hv) fun d h1 h2=>?_;rcases zne h2 with z | z
  ·subst z;exact DIe.list (iF h h1)
  ·subst z;exact DIe.tup (iF h h1)
 unfold trI1 at h;split at h
 ·refine⟨?_,rfl⟩
  split at h
  ·rename_i q;refine xa (Zb.mp h) fun a' ha h=>?_;subst h;simp only [evW] at hv;refine xa (Za.mp hv) fun m hm hv=>?_;split at hv
   ·rename_i z;cases hv;refine xg (zdt hX q.1) fun g1 g2=>?_;subst g2;exact DIe.range1 g1 (hX.blt _ (by decide +kernel)) (DA.cons (iI ha hm) DA.nil q.2) q.2 z.1 z.2
   ·cases hv
  ·refine xa (Zb.mp h) fun e' he h=>?_;subst h;exact iS he hv
 ·refine⟨?_,rfl⟩
  split at h
  ·rename_i q;refine xa (Za.mp h) fun a' ha h=>?_;refine xa (Zb.mp h) fun b' hb h=>?_;subst h;simp only [evW] at hv;refine xa (Za.mp hv) fun m hm hv=>?_;refine xa (Za.mp hv) fun m2 hm2 hv=>?_;split at hv
   ·rename_i z;cases hv;refine xg (zdt hX q.1) fun g1 g2=>?_;subst g2;exact DIe.range2 g1 (hX.blt _ (by decide +kernel)) (DA.cons (iI ha hm) (DA.cons (iI hb hm2) DA.nil q.2.2) q.2.1) q.2.1 q.2.2 z
   ·cases hv
  ·refine xa (Zb.mp h) fun e' he h=>?_;subst h;exact iS he hv
 ·refine xa (Zb.mp h) fun i hi h=>?_;subst h;simp only [evW] at hv;refine xa (Za.mp hv) fun d h1 h2=>?_;refine xk (zbf hX hi) fun a1 a2 a3 a4=>?_;refine⟨?_,rfl⟩
  rcases zne h2 with z | z
  ·subst z;exact DIe.list (DF.var a1 (Loc.vis a2) a3 a4 (zhp h1))
  ·subst z;exact DIe.tup (DF.var a1 (Loc.vis a2) a3 a4 (zhp h1))
 ·split at h
  ·rename_i q;refine xa (Zb.mp h) fun e' he h=>?_;subst h;exact⟨iS he hv,q⟩
  ·cases h
theorem noSet {e:Expr} {env:Env} (h:ydg e=false):∀ x,foldedSetIterable e env x=pure x:=fun x=>by
 cases e <;> first | (cases h;done) | rfl
theorem blk_xe (hX:XE X c Γ) {scope:Scope} (hB:zue c scope=true) {X':Cx} (h:yey X scope (locs scope++frs' scope) X'):XE X' (blkC c scope) Γ:=by
 refine vt h fun cl C s₀ H₀ ex qz5=>?_;clear h;subst qz5
 unfold zue at hB;simp only [Zq,decide_eq_true_eq] at hB;obtain⟨⟨⟨⟨⟨b1,b2⟩,b3⟩,b4⟩,b5⟩,b6⟩:=hB
 refine⟨rfl,?_,b5,hX.calm,?_,hX.calls,hX.xf,hX.un,hX.blt⟩
 ·show relabel scope X.env=relS scope c.sc;rw [<- hX.hsc];rfl
 ·show (relabel scope X.env).kind=.function;exact b1
theorem yct {sc:Scope} {x:Str} (h:x∈frs' sc):(x,NameKind.free)∈sc.names:=by
 unfold frs' at h;refine xa (Kb.mp h) fun y hy e=>?_;split at e
 ·rename_i k;cases e;rw [<- k];exact hy
 ·cases e
theorem zsd {N:List Str}:∀ {l:List Str} {fr:List Nat},frIx N l=some fr->fr.length=l.length/\∀ (m:Nat) (x:Str),l[m]? = some x->∃ j:Nat,fr[m]? = some j/\N[j]? = some x
 | [],fr,h=>by simp only [frIx] at h;cases h;exact⟨rfl,fun m x e=>by simp at e⟩
 | y::l,fr,h=>by
  simp only [frIx] at h;refine xa (Za.mp h) fun i hi h=>?_;refine xa (Zb.mp h) fun r hr h=>?_;subst h;refine xg (zsd hr) fun g1 g2=>?_;refine⟨by rw [Zk,Zk,g1],fun m x e=>?_⟩
  cases m with
  | zero=>simp at e;subst e;exact⟨i,by simp,zff hi⟩
  | succ m=>simpa using g2 m x (by simpa using e)
theorem ykt (hX:XE X c Γ) {scope:Scope} {fr:List Nat} (hB:zue c scope=true) (hf:frIx c.N (frs' scope)=some fr):CompOk X scope (locs scope) (frs' scope) fr:=by
 unfold zue at hB;simp only [Zq,decide_eq_true_eq,List.all_eq_true] at hB;obtain⟨⟨⟨⟨⟨b1,b2⟩,b3⟩,b4⟩,b5⟩,b6⟩:=hB
 refine xg (zsd hf) fun g1 g2=>?_;refine⟨b1,b2,b3,fun y hy hk=>?_,fun m x e=>?_,g1⟩
 ·show X.env.scope.names.lookup y.1=_;rw [hX.hsc];exact (b4 y hy hk).1
 ·refine xa (g2 m x e) fun j e1 e2=>?_;have:=b4 _ (yct (Zw e)) rfl
  refine⟨this.2,?_,j,e1,by rw [hX.hN];exact e2⟩
  show X.env.scope.names.lookup x=_;rw [hX.hsc];exact this.1
theorem zqv (hX:XE X c Γ) {x:Str} {i:Nat} (h:ybn c x=some i):X.N[i]? = some x/\X.env.scope.names.lookup x=some .local:=by
 unfold ybn at h;split at h
 ·rename_i k;exact⟨by rw [hX.hN];exact zff h,by rw [hX.hsc];exact k⟩
 ·cases h
theorem zex {ρ ρ':Rho} {i:Nat} {d:D} (h:setE ρ i d=some ρ'):i<ρ.length/\ρ'=ρ.set i (some d):=by
 unfold setE at h;by_cases q:i<ρ.length
 ·rw [if_pos q] at h;cases h;exact⟨q,rfl⟩
 ·rw [if_neg q] at h;cases h
theorem zmz (hX:XE X c Γ):∀ {ts:List Expr} {is:List Nat} {ds:List D} {ρ ρ':Rho},zna c ts=some is->zcu is ds ρ=some ρ'->DGse X ts ds ρ ρ'/\ts.all By=true/\ds.length=ts.length
 | [],is,ds,ρ,ρ',h,hb=>by
  simp only [zna] at h;cases h;cases ds with
  | nil=>cases hb;exact⟨DGse.nil,rfl,rfl⟩
  | cons d ds=>cases hb
 | t::ts,is,ds,ρ,ρ',h,hb=>by
  unfold zna at h;split at h
  ·rename_i z;cases z
  ·rename_i x p es z;cases z;refine xa (Za.mp h) fun i hi h=>?_;refine xa (Zb.mp h) fun l hl h=>?_;subst h;cases ds with
   | nil=>cases hb
   | cons d ds=>
    simp only [zcu] at hb;refine xa (Za.mp hb) fun ρ1 h1 hb=>?_;refine xg (zex h1) fun q e=>?_;subst e;refine xi (zmz hX hl hb) fun g g2 g3=>?_;refine xg (zqv hX hi) fun a1 a2=>?_;exact⟨DGse.cons (DGe.name (by rw [hX.hN];exact hX.nd) a1 a2 q) g rfl,by rw [Qb,g2];rfl,by rw [Zk,Zk,g3]⟩
  ·cases h
theorem yba (hX:XE X c Γ) {tg:Expr} {t:Tg} (h:ybb c tg=some t) {d:D} {ρ ρ':Rho} (hb:zca t d ρ=some ρ'):DGe X tg d ρ ρ':=by
 unfold ybb at h;split at h
 ·refine xa (Zb.mp h) fun i hi h=>?_;subst h;simp only [zca] at hb;refine xg (zex hb) fun q e=>?_;subst e;refine xg (zqv hX hi) fun a1 a2=>?_;exact DGe.name (by rw [hX.hN];exact hX.nd) a1 a2 q
 ·refine xa (Zb.mp h) fun l hl h=>?_;subst h;cases d <;> first | (simp only [zca] at hb;cases hb;done) | skip
  simp only [zca] at hb;refine xi (zmz hX hl hb) fun g g2 g3=>?_;exact DGe.tup hX.calm g g2 g3
 ·cases h
theorem zfk {nt:Nat} {fr:List Nat} {ρ0:Rho}:∀ {is:List Nat} {ds:List D} {ρ ρ':Rho},(is.all fun i=>decide (i<nt))=true->zcu is ds ρ=some ρ'->(∀ (i:Nat) d,(blkR nt fr ρ0)[i]? = some (some d)->ρ[i]? = some (some d))->∀ (i:Nat) d,(blkR nt fr ρ0)[i]? = some (some d)->ρ'[i]? = some (some d)
 | [],ds,ρ,ρ',_,hb,h=>by
  cases ds with
  | nil=>cases hb;exact h
  | cons d ds=>cases hb
 | j::is,ds,ρ,ρ',hj,hb,h=>by
  cases ds with
  | nil=>cases hb
  | cons d ds=>
   rw [Qb,Zq] at hj;simp only [zcu] at hb;refine xa (Za.mp hb) fun ρ1 h1 hb=>?_;refine xg (zex h1) fun q e=>?_;subst e;refine zfk hj.2 hb fun i d' e=>?_;refine xc (zef e) fun m _ e1 _ _=>?_;have:=of_decide_eq_true hj.1
   rw [Yp (by omega)];exact h i d' e
theorem zoj {nt:Nat} {fr:List Nat} {ρ0:Rho} {t:Tg} {d:D} {ρ':Rho} (ht:tgOk nt t=true) (hb:zca t d (blkR nt fr ρ0)=some ρ'):∀ (i:Nat) d,(blkR nt fr ρ0)[i]? = some (some d)->ρ'[i]? = some (some d):=by
 cases t with
 | name j=>
  simp only [zca] at hb;refine xg (zex hb) fun q e=>?_;subst e;intro i d' e;refine xc (zef e) fun m _ e1 _ _=>?_;have:=of_decide_eq_true ht
  rw [Yp (by omega)];exact e
 | tup is=>
  cases d <;> first | (simp only [zca] at hb;cases hb;done) | skip
  simp only [zca] at hb;exact zfk ht hb fun i d e=>e
def yah (X:Cx) (elt tg iter:Expr) (ifs:List Expr) (scope:Scope) (ρ:Rho) (w:W):Prop:=∃ (items res:List D) (f:D->Option (Option D)) (fr:List Nat),w=.new res/\CompOk X scope (locs scope) (frs' scope) fr/\DIe X tg iter ρ items/\(∀ x,foldedSetIterable iter X.env x=pure x)/\items.length<=sizeLine/\zdk f items=some res /\
 ∀ (X':Cx),yey X scope (locs scope++frs' scope) X'->∀ (d:D) (o:Option D),d∈items->f d=some o->∃ ρd,DGe X' tg d (blkR (locs scope).length fr ρ) ρd/\(∀ (i:Nat) d,(blkR (locs scope).length fr ρ)[i]? = some (some d)->ρd[i]? = some (some d)) /\
   (match o with | none=>DTs X' ifs ρd false | some e=>DTs X' ifs ρd true/\DF X' elt ρd e)
theorem zkh {n:Nat} (hX:XE X c Γ) (iF:∀ {e e' ρ d},trE n c e=some e'->(ev Γ e' ρ).map W.d=some d->DF X e ρ d) (jE:∀ X' c',XE X' c' Γ->∀ e e' ρ w,trE n c' e=some e'->ev Γ e' ρ=some w->DE X' e ρ w)
  (jT:∀ X' c',XE X' c' Γ->∀ e e' ρ k,trT n c' e=some e'->((ev Γ e' ρ).map W.d).bind zdb=some k->DT X' e ρ k) {elt tg iter:Expr} {ifs:List Expr} {scope:Scope} {e':E} {ρ:Rho} {w:W}
  (h:(if zue c scope=true then (trI1 (trE n c) c tg iter).bind fun it=>(ybb (blkC c scope) tg).bind fun t=>(frIx c.N (frs' scope)).bind fun fr=>
   (trE n (blkC c scope) elt).bind fun e=>(zvf (trT n (blkC c scope)) ifs).map fun k=>E.comp e t it (locs scope).length fr k else none)=some e') (hv:ev Γ e' ρ=some w):yah X elt tg iter ifs scope ρ w:=by
 split at h
 case isFalse=>cases h
 rename_i hB;refine xa (Za.mp h) fun it hit h=>?_;refine xa (Za.mp h) fun t ht h=>?_;refine xa (Za.mp h) fun fr hfr h=>?_;refine xa (Za.mp h) fun e1 he1 h=>?_;refine xa (Zb.mp h) fun k hk h=>?_;subst h;simp only [ev] at hv;refine xa (Za.mp hv) fun items hi hv=>?_;split at hv
 case isFalse=>cases hv
 rename_i z;refine xa (Zb.mp hv) fun res hres hv=>?_;subst hv;refine xg (yhd hX (fun h hv=>iF h hv) hit hi) fun d1 d2=>?_;refine⟨_,_,_,_,rfl,ykt hX hB hfr,d1,noSet d2,z.1,hres,fun X' hX' d o hd ho=>?_⟩
 refine xa (Za.mp ho) fun ρd hb ho=>?_;refine xa (Za.mp ho) fun kk hkk ho=>?_;have hXE:=blk_xe hX hB hX';have tests:DTs X' ifs ρd kk:=by
  revert hk
  cases ifs with
  | nil=>
   intro hk;simp only [zvf] at hk;cases hk;simp only [evc] at hkk;cases hkk;exact .inl ⟨rfl,rfl⟩
  | cons c1 rest=>
   cases rest with
   | nil=>
    intro hk;simp only [zvf] at hk;refine xa (Zb.mp hk) fun c2 hc2 hk=>?_;subst hk;simp only [evc] at hkk;exact .inr ⟨c1,rfl,jT X' _ hXE _ _ _ _ hc2 hkk⟩
   | cons c2 rest=>
    intro hk;simp only [zvf] at hk;cases hk
 refine⟨ρd,yba hXE ht hb,zoj z.2 hb,?_⟩
 cases kk with
 | false=>
  rw [if_neg Z2] at ho;cases ho;exact tests
 | true=>
  rw [if_pos rfl] at ho;refine xa (Zb.mp ho) fun de hde ho=>?_;subst ho;refine xa (zpj hde) fun w hw1 hw2=>?_;subst hw2;exact⟨tests,(jE X' _ hXE _ _ _ _ he1 hw1).df⟩
theorem zhv:∀ n (X:Cx) (c:TC),XE X c Γ->(∀ e e' ρ w,trE n c e=some e'->ev Γ e' ρ=some w->DE X e ρ w)/\(∀ es l ρ ds,trEs n c es=some l->evs Γ l ρ=some ds->DA X es ρ ds) /\
  (∀ o o' ρ i,trO n c o=some o'->evo Γ o' ρ=some i->DO X o ρ i)/\(∀ e e' ρ k,trT n c e=some e'->((ev Γ e' ρ).map W.d).bind zdb=some k->DT X e ρ k) /\
  (∀ op es p e' ρ k,trT n c (.BoolOp op es p)=some e'->((ev Γ e' ρ).map W.d).bind zdb=some k->DW X (.BoolOp op es p) ρ k):=by
 intro n;induction n with
 | zero=>exact fun X c hX=>⟨fun e e' ρ w h=>by (simp only [trE] at h;cases h),fun e e' ρ w h=>by (simp only [trEs] at h;cases h),fun e e' ρ w h=>by (simp only [trO] at h;cases h),fun e e' ρ w h=>by (simp only [trT] at h;cases h),fun op es p e' ρ w h=>by (simp only [trT] at h;cases h)⟩
 | succ n ih0=>
  intro X c hX;refine xv (ih0 X c hX) fun iE iEs iO iT iW=>?_;have iF:∀ {e e' ρ d},trE n c e=some e'->(ev Γ e' ρ).map W.d=some d->DF X e ρ d:=fun {e e' ρ d} h hv=>by
   refine xa (zpj hv) fun w h1 h2=>?_;subst h2;exact (iE _ _ _ _ h h1).df
  have iB:∀ {e e' ρ k},trE n c e=some e'->((ev Γ e' ρ).map W.d).bind zdb=some k->DF X e ρ (.bl k):=fun {e e' ρ k} h hv=>by
   refine xa (Za.mp hv) fun d h1 h2=>?_;rw [zud h2] at h1;exact iF h h1
  have iI:∀ {e e' ρ k},trE n c e=some e'->((ev Γ e' ρ).map W.d).bind dInt=some k->DF X e ρ (.int k):=fun {e e' ρ k} h hv=>by
   refine xa (Za.mp hv) fun d h1 h2=>?_;rw [zdv h2] at h1;exact iF h h1
  have hWW:∀ op es p e' ρ k,trT (n+1) c (.BoolOp op es p)=some e'->((ev Γ e' ρ).map W.d).bind zdb=some k->DW X (.BoolOp op es p) ρ k:=by
   intro op es p e' ρ k h hv;simp only [trT] at h;change trB _ p es op=some e' at h
   unfold trB at h;split at h
   ·unfold yhf at h;split at h
    ·exact DW.and1 (iT _ _ _ _ h hv)
    ·refine xa (Za.mp h) fun a' ha h=>?_;refine xa (Zb.mp h) fun b' hb h=>?_;subst h;simp only [ev] at hv;refine xa (Za.mp hv) fun d hd0 hv=>?_;refine xa (zpj hd0) fun w hd1 z=>?_;subst z;refine xa (Za.mp hd1) fun k1 hk hd=>?_;cases k1 with
     | true=>
      rw [if_pos rfl] at hd;exact DW.andT (iT _ _ _ _ ha hk) (iW _ _ _ _ _ _ hb (by rw [hd];exact hv))
     | false=>
      rw [if_neg Z2] at hd;cases hd;cases hv;exact DW.andF (iT _ _ _ _ ha hk) zrb
    ·cases h
   ·unfold trOr at h;split at h
    ·exact DW.or1 (iT _ _ _ _ h hv)
    ·refine xa (Za.mp h) fun a' ha h=>?_;refine xa (Zb.mp h) fun b' hb h=>?_;subst h;simp only [ev] at hv;refine xa (Za.mp hv) fun d hd0 hv=>?_;refine xa (zpj hd0) fun w hd1 z=>?_;subst z;refine xa (Za.mp hd1) fun k1 hk hd=>?_;cases k1 with
     | true=>
      rw [if_pos rfl] at hd;cases hd;cases hv;exact DW.orT (iT _ _ _ _ ha hk) zrb
     | false=>
      rw [if_neg Z2] at hd;exact DW.orF (iT _ _ _ _ ha hk) (iW _ _ _ _ _ _ hb (by rw [hd];exact hv))
    ·cases h
  refine⟨fun e e' ρ w h hv=>?_,fun es l ρ ds h hv=>?_,fun o o' ρ i h hv=>?_,fun e e' ρ k h hv=>?_,hWW⟩
  ·simp only [trE] at h;cases e with
   | Name id0 pos0=>
    change (slot c id0).map E.var=some e' at h
    refine xa (Zb.mp h) fun i h1 h2=>?_;subst h2;simp only [ev] at hv;refine xa (Zb.mp hv) fun d h3 h4=>?_;subst h4;refine xk (zbf hX h1) fun a1 a2 a3 a4=>?_;exact (DF.var a1 (Loc.vis a2) a3 a4 (zhp h3)).de
   | Constant v0 k0 pos0=>
    change trK v0=some e' at h
    unfold trK at h;split at h
    ·cases h;simp only [ev] at hv;cases hv;exact DF.cint.de
    ·cases h;simp only [ev] at hv;cases hv;exact DF.cbl.de
    ·cases h;simp only [ev] at hv;cases hv;exact DF.cnon.de
    ·cases h
   | BinOp l0 op0 r0 pos0=>
    change ((trOp op0).bind fun o=>(trE n c l0).bind fun a'=>(trE n c r0).map fun b'=>E.bin o a' b')=some e' at h
    refine xa (Za.mp h) fun o ho h=>?_;refine xa (Za.mp h) fun a' ha h=>?_;refine xa (Zb.mp h) fun b' hb h=>?_;subst h;simp only [ev] at hv;refine xa (Za.mp hv) fun x hx hv=>?_;refine xa (Za.mp hv) fun y hy hv=>?_;exact op_ok ho (iF ha hx) (iF hb hy) hv
   | UnaryOp op0 a0 pos0=>
    change trU (trE n c) a0 op0=some e' at h
    unfold trU at h;split at h
    ·-- USub
     refine xa (Zb.mp h) fun a' ha h=>?_;subst h;simp only [ev] at hv;refine xa (Zb.mp hv) fun i hi hv=>?_;subst hv;exact DE.neg (iI ha hi)
    ·-- Not
     refine xa (Zb.mp h) fun a' ha h=>?_;subst h;simp only [ev] at hv;refine xa (Zb.mp hv) fun i hi hv=>?_;subst hv;exact DE.not (iB ha hi)
    ·cases h
   | BoolOp op0 es0 pos0=>
    change trB (trE n c) pos0 es0 op0=some e' at h
    unfold trB at h;split at h
    ·unfold yhf at h;split at h
     ·exact DE.one (iE _ _ _ _ h hv)
     ·-- And
      refine xa (Za.mp h) fun a' ha h=>?_;refine xa (Zb.mp h) fun b' hb h=>?_;subst h;simp only [ev] at hv;refine xa (Za.mp hv) fun k hk hv=>?_;cases k with
      | true=>
       rw [if_pos rfl] at hv;exact DE.andT (iB ha hk) (iE _ _ _ _ hb hv)
      | false=>
       rw [if_neg Z2] at hv;cases hv;exact DE.andF (iB ha hk)
     ·cases h
    ·unfold trOr at h;split at h
     ·exact DE.one (iE _ _ _ _ h hv)
     ·-- Or
      refine xa (Za.mp h) fun a' ha h=>?_;refine xa (Zb.mp h) fun b' hb h=>?_;subst h;simp only [ev] at hv;refine xa (Za.mp hv) fun k hk hv=>?_;cases k with
      | true=>
       rw [if_pos rfl] at hv;cases hv;exact DE.orT (iB ha hk)
      | false=>
       rw [if_neg Z2] at hv;exact DE.orF (iB ha hk) (iE _ _ _ _ hb hv)
     ·cases h
   | Compare a0 ops0 bs0 pos0=>
    change trCp (trE n c) a0 ops0 bs0=some e' at h
    unfold trCp at h;split at h
    ·-- Compare
     split at h
     case isFalse=>cases h
     rename_i hmk;refine xa (Za.mp h) fun o ho h=>?_;refine xa (Za.mp h) fun a' ha h=>?_;refine xa (Zb.mp h) fun b' hb h=>?_;subst h;simp only [ev] at hv;refine xa (Za.mp hv) fun x hx hv=>?_;refine xa (Za.mp hv) fun y hy hv=>?_;refine xa (Zb.mp hv) fun k hk hv=>?_;subst hv;exact DE.cmp (ygq hX.un ho hk) (iF ha hx) (iF hb hy) hmk
    ·cases h
   | Tuple es0 k0 pos0=>
    change (trEs n c es0).map E.tup=some e' at h
    refine xa (Zb.mp h) fun l hl h=>?_;subst h;simp only [ev] at hv;refine xa (Za.mp hv) fun ds hd hv=>?_;by_cases q:ds.length<=sizeLine
    ·rw [if_pos q] at hv;cases hv;exact DE.tup (iEs _ _ _ _ hl hd) q
    ·rw [if_neg q] at hv;cases hv
   | List es0 pos0=>
    change (trEs n c es0).map E.lst=some e' at h
    refine xa (Zb.mp h) fun l hl h=>?_;subst h;simp only [ev] at hv;refine xa (Za.mp hv) fun ds hd hv=>?_;by_cases q:ds.length<=sizeLine
    ·rw [if_pos q] at hv;cases hv;exact DE.lst (iEs _ _ _ _ hl hd) q
    ·rw [if_neg q] at hv;cases hv
   | ListComp elt0 gs0 scope0 pos0=>
    change trLC (trE n) (trT n) (trE n c) c elt0 scope0 gs0=some e' at h
    unfold trLC at h;split at h
    ·-- a comprehension
     refine vh (zkh hX (fun h hv=>iF h hv) (fun X' c' h=>(ih0 X' c' h).1) (fun X' c' h=>(ih0 X' c' h).2.2.2.1) h hv) fun items res f fr e1 hC hI hS hz hr hb=>?_;subst e1;exact DE.comp hX.calm hC hI hS hz hr hb
    ·cases h
   | Subscript a0 b0 pos0=>
    change trSb (trE n c) (trO n c) a0 b0=some e' at h
    unfold trSb at h;split at h
    ·-- a slice
     refine xa (Za.mp h) fun a' ha h=>?_;refine xa (Za.mp h) fun l' hl h=>?_;refine xa (Zb.mp h) fun h' hh h=>?_;subst h;simp only [ev] at hv;refine xa (Za.mp hv) fun x hx hv=>?_;refine xa (Za.mp hv) fun i hi hv=>?_;refine xa (Za.mp hv) fun j hj hv=>?_;cases x <;> first | (cases hv;done) | skip
     cases hv;exact DE.slL (iF ha hx) (iO _ _ _ _ hl hi) (iO _ _ _ _ hh hj)
    ·-- a subscript
     split at h
     ·rename_i hs;refine xa (Za.mp h) fun a' ha h=>?_;refine xa (Zb.mp h) fun b' hb h=>?_;subst h;simp only [ev] at hv;refine xa (Za.mp hv) fun x hx hv=>?_;refine xa (Za.mp hv) fun y hy hv=>?_;refine xa (Zb.mp hv) fun d hd hv=>?_;subst hv;unfold ixD at hd;split at hd
      ·exact DE.ixT (iF ha hx) (iF hb hy) hs hd
      ·exact DE.ixL (iF ha hx) (iF hb hy) hs hd
      ·cases hd
     ·cases h
   | Call func0 args0 kws0 pos0=>
    cases func0 <;> first | (cases h;done) | skip
    cases args0 <;> first | (cases h;done) | skip
    cases kws0 <;> first | (cases h;done) | skip
    rename_i x p e es;change zvg (trE n c) (trEs n c) c x e es=some e' at h
    unfold zvg at h;split at h
    ·rename_i f as hf;refine xa (Zb.mp h) fun l hl h=>?_;subst h;simp only [ev] at hv;refine xa (Za.mp hv) fun ds hd hv=>?_;exact fm_ok hX hf (zeu hl) (iEs _ _ _ _ hl hd) hv
    split at h
    ·rename_i f k hh;split at h
     ·rename_i hk;refine xa (Zb.mp h) fun l hl h=>?_;subst h;simp only [ev] at hv;refine xa (Za.mp hv) fun ds hd hv=>?_;refine xi (zya hX hh) fun hf g1 g2=>?_;have hst:=zeu hl;rw [Qb,Zq] at hst;exact DE.call (hX.calls _ _ _ hf) g1 g2 (iEs _ _ _ _ hl hd) ((yke hl hd).trans hk) hv hst.1 hst.2
     ·cases h
    ·rename_i b hh;refine xa (Zb.mp h) fun l hl h=>?_;subst h;simp only [ev] at hv;refine xa (Za.mp hv) fun ds hd hv=>?_;refine xi (zyb hX hh) fun e1 g1 g2=>?_;have hst:=zeu hl;rw [Qb,Zq] at hst;subst e1;exact DE.blt (bi_ok hX.calm hv) g1 (hX.blt _ (zzi b).2) (ylg b) (zzi b).1 g2 (iEs _ _ _ _ hl hd) hst.1 hst.2
    ·rename_i hh;refine xg (zty hX hh) fun ex hs1=>?_;subst ex;split at h
     ·rename_i y p2;split at h
      ·rename_i hgy;refine xg (zge hX hgy.1) fun g3 g4=>?_;split at h
       ·rename_i t ht;refine xa (Zb.mp h) fun e' he h=>?_;subst h;simp only [ev] at hv;refine xa (Za.mp hv) fun d hd hv=>?_;refine xa (Zb.mp hv) fun k hk hv=>?_;subst hv;have e1:=zvc ht;subst e1;have e2:k=isTy t d:=by
         unfold ztw at hk;split at hk
         ·cases hk
         ·cases hk;rfl
        subst e2;exact DE.isi hk (iF he hd) hgy.2 hs1 (hX.blt _ (by decide +kernel)) rfl g3 (hX.blt _ (ygy t))
       ·cases h
      ·cases h
     ·cases h
    ·rename_i hh;refine xg (ztx hX hh) fun ex hs1=>?_;subst ex;split at h
     ·split at h
      ·rename_i hst;refine xa (Zb.mp h) fun e' he h=>?_;subst h;simp only [ev] at hv;refine xa (Za.mp hv) fun d hd hv=>?_;cases d <;> first | (cases hv;done) | skip
       ·cases hv;exact DE.ty zzd hs1 (hX.blt _ (by decide +kernel)) (by decide +kernel) (by decide) (by decide) (DA.cons (iF he hd) DA.nil hst) hst rfl
       ·cases hv;exact DE.ty yec hs1 (hX.blt _ (by decide +kernel)) (by decide +kernel) (by decide) (by decide) (DA.cons (iF he hd) DA.nil hst) hst rfl
      ·cases h
     ·cases h
    ·cases h
   | _=>cases h
  ·cases es with
   | nil=>
    simp only [trEs] at h;cases h;simp only [evs] at hv;cases hv;exact DA.nil
   | cons e es=>
    simp only [trEs] at h;by_cases q:By e=true
    ·rw [if_pos q] at h;refine xa (Za.mp h) fun e' he h=>?_;refine xa (Zb.mp h) fun l' h3 z=>?_;subst z;simp only [evs] at hv;refine xa (Za.mp hv) fun d hd hv=>?_;refine xa (Zb.mp hv) fun ds' hv3 z=>?_;subst z;exact DA.cons (iF he hd) (iEs _ _ _ _ h3 hv3) q
    ·rw [if_neg q] at h;cases h
  ·cases o with
   | none=>
    simp only [trO] at h;cases h;simp only [evo] at hv;cases hv;exact DO.none
   | some e=>
    simp only [trO] at h;refine xa (Zb.mp h) fun e' he h=>?_;subst h;simp only [evo] at hv;refine xa (Zb.mp hv) fun i hi hv=>?_;subst hv;exact DO.some (iI he hi)
  ·have h0:=h;simp only [trT] at h;unfold trT1 at h;split at h
   ·unfold trN at h;split at h
    ·refine xa (Zb.mp h) fun a' ha h=>?_;subst h;simp only [ev] at hv;refine xa (Za.mp hv) fun d hd0 hv=>?_;refine xa (zpj hd0) fun w hd1 z=>?_;subst z;refine xa (Zb.mp hd1) fun k1 hk hd=>?_;subst hd;cases hv;exact DT.not (iT _ _ _ _ ha hk)
    ·cases h
   ·exact (hWW _ _ _ _ _ _ h0 hv).dt
   ·unfold trCp at h;split at h
    ·split at h
     case isFalse=>cases h
     rename_i hmk;refine xa (Za.mp h) fun o ho h=>?_;refine xa (Za.mp h) fun a' ha h=>?_;refine xa (Zb.mp h) fun b' hb h=>?_;subst h;simp only [ev] at hv;refine xa (Za.mp hv) fun d hd0 hv=>?_;refine xa (zpj hd0) fun w hd1 z=>?_;subst z;refine xa (Za.mp hd1) fun x hx hd2=>?_;refine xa (Za.mp hd2) fun y hy hd3=>?_;refine xa (Zb.mp hd3) fun k1 hk hd=>?_;subst hd;cases hv;exact DT.cmp (ygq hX.un ho hk) (iF ha hx) (iF hb hy) hmk
    ·cases h
   ·split at h
    ·rename_i hp;exact DT.val (iB h hv) (znk hp)
    ·cases h
theorem zkl (hX:XE X c Γ) (n:Nat):(∀ e e' ρ w,trE n c e=some e'->ev Γ e' ρ=some w->DE X e ρ w)/\(∀ es l ρ ds,trEs n c es=some l->evs Γ l ρ=some ds->DA X es ρ ds) /\
  (∀ o o' ρ i,trO n c o=some o'->evo Γ o' ρ=some i->DO X o ρ i):=⟨(zhv n X c hX).1,(zhv n X c hX).2.1,(zhv n X c hX).2.2.1⟩
theorem zve (hX:XE X c Γ) (n:Nat):(∀ e e' ρ k,trT n c e=some e'->((ev Γ e' ρ).map W.d).bind zdb=some k->DT X e ρ k) /\
  (∀ op es p e' ρ k,trT n c (.BoolOp op es p)=some e'->((ev Γ e' ρ).map W.d).bind zdb=some k->DW X (.BoolOp op es p) ρ k):=⟨(zhv n X c hX).2.2.2.1,(zhv n X c hX).2.2.2.2⟩
end
end DL
namespace DL
open PySem L2 PyProof.Rows
def zob:Expr->Bool
 | .ListComp _ _ _ _=>true
 | .SetComp _ _ _ _=>true
 | .DictComp _ _ _ _ _=>true
 | _=>false
theorem zww {e t:Expr} {line:Nat} {env:Env} (h:zob e=false):swapsWith e (some t) line env=pure false:=by
 cases e <;> first | rfl | (cases h;done)
theorem yco {e:Expr} {ts:List Expr} {k:Nat} {p:Pos} {env:Env} (h:isTup e=false):swappedStores [.Tuple ts k p] e env=pure none:=by
 cases e <;> first | (cases h;done) | rfl
theorem zwx {e a k:Expr} {p:Pos} {env:Env}:swappedStores [.Subscript a k p] e env=pure none:=by
 cases e <;> rfl
theorem yjg {e t:Expr} {line:Nat} {env:Env} (h:zob e=false):swapsWithSole [t] e line env=pure false:=by
 unfold swapsWithSole;exact zww h
def swC (sc:Scope) (x:Str) (px pos:Pos) (scope:Scope):Bool:=decide (sc.names.lookup x=some NameKind.local) && (px.line == pos.line) && !(scope.names.any fun (n,k)=>n == x && (k == NameKind.local || k == NameKind.cell))
theorem yfd {x:Str} {px pos:Pos} {elt:Expr} {gs:List Comprehension} {scope:Scope} {line:Nat} {env:Env} (hk:env.scope.kind=.function):swapsWith (.ListComp elt gs scope pos) (some (.Name x px)) line env=pure (swC env.scope x px pos scope):=by
 have hbk:env.blockKind=.function:=by unfold Env.blockKind;rw [hk];rfl
 have e1:(env.kindOf x == some NameKind.local)=decide (env.scope.names.lookup x=some NameKind.local):=by
  unfold Env.kindOf;by_cases q:env.scope.names.lookup x=some NameKind.local
  ·rw [q];rfl
  ·rw [decide_eq_false q];cases z:env.scope.names.lookup x with
   | none=>rfl
   | some k=>cases k <;> first | rfl | (exact absurd z q)
 show pure _=pure _;rw [hbk];unfold swC;rw [<- e1];rfl
theorem yhj {x y:Str} {a b:Expr} {px py pt p2:Pos} {kt k2:Nat} {env:Env} (hk:env.scope.kind=.function) (hx:env.scope.names.lookup x=some .local) (hy:env.scope.names.lookup y=some .local) (hl:(px.line == py.line)=true) (hxy:x≠y)
  (ha:By a=true) (hb:By b=true) (h1:([a,b].all (foldedForSure 8))=false) (h2:([a,b].all (constantsAlone 8))=false) :
  swappedStores [.Tuple [.Name x px,.Name y py] kt pt] (.Tuple [a,b] k2 p2) env=pure (some [x,y]):=by
 have hbk:env.blockKind=.function:=by unfold Env.blockKind;rw [hk];rfl
 have kx:(env.kindOf x == some NameKind.local)=true:=by unfold Env.kindOf;rw [hx];rfl
 have ky:(env.kindOf y == some NameKind.local)=true:=by unfold Env.kindOf;rw [hy];rfl
 have e1:(y == x)=false:=by
  cases q:(y == x) with
  | false=>rfl
  | true=>exact absurd (eq_of_beq q).symm hxy
 have k1:env.kindOf x=some NameKind.local:=hx;have k2:env.kindOf y=some NameKind.local:=hy;have l1:py.line=px.line:=(eq_of_beq hl).symm;have p1:(Expr.Name x px).pos=px:=rfl;unfold swappedStores;simp only [Zk,Ym,hbk,h1,h2];simp [List.eraseDups,List.eraseDupsBy,List.eraseDupsBy.loop,e1,hxy,Wk hxy]
 rw [if_neg (by
  rintro (h | h)
  ·revert ha h;cases a <;> simp [By]
  ·revert hb h;cases b <;> simp [By])]
 simp [Kv,k1,k2,l1,p1,List.eraseDups,List.eraseDupsBy,List.eraseDupsBy.loop,e1,hxy,Wk hxy]
end DL
namespace DL
open PySem L2 PyProof.Rows
def slots (c:TC):List Expr->Option (List Nat)
 | []=>some []
 | .Name x _::es=>(slot c x).bind fun i=>(slots c es).map fun l=>i::l
 | _=>none
def trTg (c:TC):Expr->Option Tg
 | .Name x _=>(slot c x).map Tg.name
 | .Tuple es _ _=>(slots c es).map Tg.tup
 | _=>none
def zvj (n:Nat) (c:TC) (x:Str):Expr->Option S
 | .ListComp elt gs scope pos=>if c.sc.kind=.function then (slot c x).bind fun i=>(trE n c (.ListComp elt gs scope pos)).map (S.asg i) else none
 | e=>if zob e=false then (slot c x).bind fun i=>(trE n c e).map (S.asg i) else none
def zvi (n:Nat) (c:TC):List Expr->Expr->Option S
 | [.Name x px,.Name y py],.Tuple [a,b] _ _=>
  if (px.line == py.line)=true/\x≠y/\By a=true/\By b=true/\([a,b].all (foldedForSure 8))=false/\([a,b].all (constantsAlone 8))=false/\c.sc.names.lookup x=some .local/\c.sc.names.lookup y=some .local then
   (slot c x).bind fun i=>(slot c y).bind fun j=>(trE n c a).bind fun a'=>(trE n c b).map fun b'=>S.par i j a' b'
  else none
 | ts,e=>if zob e=false/\isTup e=false then (slots c ts).bind fun is=>(trE n c e).map (S.unp is) else none
def yhe (n:Nat) (c:TC) (e:Expr):Expr->Option S
 | .Name x _=>zvj n c x e
 | .Subscript (.Name x _) k _=>if zob e=false/\zeb k=true then (slot c x).bind fun i=>(trE n c k).bind fun k'=>(trE n c e).map (S.seti i k') else none
 | .Tuple ts _ _=>zvi n c ts e
 | _=>some .never
def yhc (n:Nat) (c:TC):Expr->Option S
 | .Name x _=>(slot c x).map S.retV
 | e=>(trE n c e).map S.ret
def v1 {α:Type}:List α->Option α
 | [a]=>some a
 | _=>none
def vN:Expr->Option Str
 | .Name x _=>some x
 | _=>none
theorem vN_s {s:Expr} {x:Str} (h:vN s=some x):∃ p,s = .Name x p:=by
 unfold vN at h;split at h
 ·cases h;exact⟨_,rfl⟩
 ·cases h
def vCl:Expr->Option (Expr×List Expr×Pos)
 | .Call f es [] p=>some (f,es,p)
 | _=>none
def vAt:Expr->Option (Expr×Str×Pos)
 | .Attribute a m p=>some (a,m,p)
 | _=>none
def xV (e:Expr):Option (Str×Str×Pos×List Expr×Pos):=(vCl e).bind fun p=>(vAt p.1).bind fun q=>(vN q.1).map fun x=>(x,q.2.1,q.2.2,p.2)
theorem vCl_s {s:Expr} {e:Expr×List Expr×Pos} (h:vCl s=some e):s = .Call e.1 e.2.1 [] e.2.2:=by
 unfold vCl at h;split at h
 ·cases h;rfl
 ·cases h
theorem vAt_s {s:Expr} {e:Expr×Str×Pos} (h:vAt s=some e):s = .Attribute e.1 e.2.1 e.2.2:=by
 unfold vAt at h;split at h
 ·cases h;rfl
 ·cases h
theorem xV_s {e:Expr} {x m:Str} {ap cp:Pos} {es:List Expr} (h:xV e=some (x,m,ap,es,cp)):∃ p,e = .Call (.Attribute (.Name x p) m ap) es [] cp:=by
 unfold xV at h;obtain⟨⟨f,l,z⟩,h1,h⟩:=Za.mp h
 obtain⟨⟨a,m0,ap0⟩,h2,h⟩:=Za.mp h
 refine xa (Zb.mp h) fun y h3 h=>?_;cases h;refine xb (vN_s h3) fun p h3=>?_;have h1:=vCl_s h1;have h2:=vAt_s h2;dsimp only at h1 h2 h3;exact⟨p,by rw [h1,h2,h3]⟩
def trX2 (n:Nat) (c:TC) (x m:Str) (ap cp:Pos):List Expr->Option S
 | [e]=>if m=("append" : Str)/\(ap.endLine == cp.line)=true/\By e=true then (slot c x).bind fun i=>(trE n c e).map (S.app i) else some .never
 | []=>if (ap.endLine == cp.line)=true then (if m=("pop" : Str) then (slot c x).map S.pop else if m=("clear" : Str) then (slot c x).map S.clr else some .never) else some .never
 | _=>some .never
def trX (n:Nat) (c:TC) (e:Expr):Option S:=match xV e with
 | some p=>trX2 n c p.1 p.2.1 p.2.2.1 p.2.2.2.2 p.2.2.2.1
 | none=>some .never
def trS1 (n:Nat) (rSs:List Stmt->Option Ss) (c:TC):Stmt->Option S
 | .Assign [t] e _=>yhe n c e t
 | .Return (some e) _=>yhc n c e
 | .If t a b _=>(trT n c t).bind fun t'=>(rSs a).bind fun a'=>(rSs b).map fun b'=>S.iff t' a' b'
 | .While t b [] _=>(trT n c t).bind fun t'=>(rSs b).map fun b'=>S.whl t' b'
 | .For tg it b [] _=>(trTg c tg).bind fun g=>(trI1 (trE n c) c tg it).bind fun i=>(rSs b).map fun b'=>S.frr g i b'
 | .Expr e _=>trX n c e
 | _=>some .never
mutual
def trS:Nat->TC->Stmt->Option S
 | 0,_,_=>none
 | n+1,c,s=>trS1 n (trSs n c) c s
def trSs:Nat->TC->List Stmt->Option Ss
 | 0,_,_=>none
 | n+1,c,[]=>some .nil
 | n+1,c,s::l=>(trS n c s).bind fun s'=>(trSs n c l).map fun l'=>.cons s' l'
end
section
variable {X:Cx} {c:TC} {Γ:Nat->List D->Option W}
theorem ydi (hX:XC X c Γ) {n:Nat} {e:Expr} {e':E} {ρ:Rho} {d:D} (h:trE n c e=some e') (hv:(ev Γ e' ρ).map W.d=some d):DF X e ρ d:=by
 refine xa (zpj hv) fun w h1 h2=>?_;subst h2;exact ((zkl hX.toXE n).1 _ _ _ _ h h1).df
theorem ydh (hX:XC X c Γ) {n:Nat} {e:Expr} {e':E} {ρ:Rho} {k:Int} (h:trE n c e=some e') (hv:((ev Γ e' ρ).map W.d).bind dInt=some k):DF X e ρ (.int k):=by
 refine xa (Za.mp hv) fun d h1 h2=>?_;rw [zdv h2] at h1;exact ydi hX h h1
theorem zew {ρ ρ':RhoS} {i:Nat} {b:B} (h:setR ρ i b=some ρ'):i<ρ.length/\ρ'=ρ.set i (some b):=by
 unfold setR at h;by_cases q:i<ρ.length
 ·rw [if_pos q] at h;cases h;exact⟨q,rfl⟩
 ·rw [if_neg q] at h;cases h
theorem zqt (hX:XC X c Γ):∀ {ts:List Expr} {is:List Nat} {ds:List D} {ρ ρ':RhoS},slots c ts=some is->zdx is ds ρ=some ρ'->DGs X ts ds ρ ρ'/\ts.all By=true/\ds.length=ts.length
 | [],is,ds,ρ,ρ',h,hb=>by
  simp only [slots] at h;cases h;cases ds with
  | nil=>cases hb;exact⟨DGs.nil,rfl,rfl⟩
  | cons d ds=>cases hb
 | t::ts,is,ds,ρ,ρ',h,hb=>by
  unfold slots at h;split at h
  ·rename_i z;cases z
  ·rename_i x p es z;cases z;refine xa (Za.mp h) fun i hi h=>?_;refine xa (Zb.mp h) fun l hl h=>?_;subst h;cases ds with
   | nil=>cases hb
   | cons d ds=>
    simp only [zdx] at hb;refine xa (Za.mp hb) fun ρ1 h1 hb=>?_;refine xg (zew h1) fun q e=>?_;subst e;refine xi (zqt hX hl hb) fun g g2 g3=>?_;refine xk (zbf hX.toXE hi) fun a1 a2 a3 a4=>?_;refine⟨DGs.cons (DG.name (by rw [hX.hN];exact hX.nd) a1 a2 (.inl (hX.fn _)) q) g rfl,by rw [Qb,g2];rfl,by rw [Zk,Zk,g3]⟩
  ·cases h
theorem zvd (hX:XC X c Γ) {tg:Expr} {t:Tg} (h:trTg c tg=some t) {d:D} {ρ ρ':RhoS} (hb:zbh t d ρ=some ρ'):DG X tg d ρ ρ':=by
 unfold trTg at h;split at h
 ·refine xa (Zb.mp h) fun i hi h=>?_;subst h;simp only [zbh] at hb;refine xg (zew hb) fun q e=>?_;subst e;refine xk (zbf hX.toXE hi) fun a1 a2 a3 a4=>?_;exact DG.name (by rw [hX.hN];exact hX.nd) a1 a2 (.inl (hX.fn _)) q
 ·refine xa (Zb.mp h) fun l hl h=>?_;subst h;cases d <;> first | (simp only [zbh] at hb;cases hb;done) | skip
  ·simp only [zbh] at hb;refine xi (zqt hX hl hb) fun g g2 g3=>?_;exact DG.tup hX.calm g g2 g3
 ·cases h
theorem DI.listV {tg:Expr} {i:Nat} {x:Str} {p:Pos} {l:List D} {ρ:RhoS} (hN:X.N[i]? = some x) (hv:Vis X.env.scope x) (hd:(x == ("__debug__" : Str))=false) (hcd:(x == ("__classdict__" : Str))=false) (hr:ρ[i]? = some (some (.sh (.lst l)))):DI X tg (.Name x p) ρ l ρ:=fun H0 Fc=>PI.mono (zpf (zgk hN hv hd hcd)) fun σ H R hz=>xa hz fun F S k=>by
 refine xa (S.env i _ hr) fun v e0 q3=>?_;refine xc q3.lst fun a xs e1 sq r=>?_;refine⟨v,e0,a,e1,⟨xs,S.sub.seq sq⟩,k _ H F (Same.refl _) S fun i H' sH=>⟨fun d hd=>?_,fun hle=>⟨xs,sH.seq sq,by rw [r.length];exact hle⟩⟩⟩
 refine xa (r.get hd) fun y h1 h2=>?_;refine⟨⟨xs,y,sH.seq sq,h1⟩,fun x H'' hz=>xg hz fun ey yy=>?_⟩
 have:=yy xs (sH.seq sq)
 rw [h1] at this;cases this;exact .inl ⟨ey,h2⟩
theorem DI.tupV {tg:Expr} {i:Nat} {x:Str} {p:Pos} {l:List D} {ρ:RhoS} (hN:X.N[i]? = some x) (hv:Vis X.env.scope x) (hd:(x == ("__debug__" : Str))=false) (hcd:(x == ("__classdict__" : Str))=false) (hr:ρ[i]? = some (some (.sh (.tup l)))):DI X tg (.Name x p) ρ l ρ:=fun H0 Fc=>PI.mono (zwl (zgk hN hv hd hcd)) fun σ H R hz=>xa hz fun F S k=>by
 refine xa (S.env i _ hr) fun v e0 q3=>?_;refine xc q3.tup fun a xs e1 sq r=>?_;refine⟨v,e0,a,e1,⟨xs,Same.tup S.sub sq⟩,k _ H F (Same.refl _) S fun i H' sH=>⟨fun d hd=>?_,fun hle=>⟨xs,Same.tup sH sq,by rw [r.length];exact hle⟩⟩⟩
 refine xa (r.get hd) fun y h1 h2=>?_;refine⟨⟨xs,y,Same.tup sH sq,h1⟩,fun x H'' hz=>xg hz fun ey yy=>?_⟩
 have:=yy xs (Same.tup sH sq)
 rw [h1] at this;cases this;exact .inl ⟨ey,h2⟩
theorem zvx (hX:XC X c Γ) {n:Nat} {tg e:Expr} {e':E} {ρ ρ':RhoS} {l:List D} (h:trE n c e=some e') (hv:evI Γ (.seq e') ρ=some (l,ρ')):DI X tg e ρ l ρ':=by
 simp only [evI] at hv;refine xa (Za.mp hv) fun w hw hv=>?_;split at hv
 ·rename_i l' hl;cases hv;exact DI.list ((zkl hX.toXE n).1 _ _ _ _ h hw) hl
 ·rename_i l' hl;cases hv;exact DI.tup ((zkl hX.toXE n).1 _ _ _ _ h hw) hl
 ·cases hv
theorem trI_ok (hX:XC X c Γ) {n:Nat} {tg e:Expr} {i:It'} {ρ ρ':RhoS} {l:List D} (h:trI1 (trE n c) c tg e=some i) (hv:evI Γ i ρ=some (l,ρ')):DI X tg e ρ l ρ'/\ydg e=false:=by
 unfold trI1 at h;split at h
 ·refine⟨?_,rfl⟩
  split at h
  ·rename_i q;refine xa (Zb.mp h) fun a' ha h=>?_;subst h;simp only [evI] at hv;refine xa (Za.mp hv) fun m hm hv=>?_;split at hv
   ·rename_i z;cases hv;refine xg (zdt hX.toXE q.1) fun g1 g2=>?_;subst g2;exact DI.range1 g1 (hX.blt _ (by decide +kernel)) (DA.cons (ydh hX ha hm) DA.nil q.2) q.2 z.1 z.2
   ·cases hv
  ·refine xa (Zb.mp h) fun e' he h=>?_;subst h;exact zvx hX he hv
 ·refine⟨?_,rfl⟩
  split at h
  ·rename_i q;refine xa (Za.mp h) fun a' ha h=>?_;refine xa (Zb.mp h) fun b' hb h=>?_;subst h;simp only [evI] at hv;refine xa (Za.mp hv) fun m hm hv=>?_;refine xa (Za.mp hv) fun m2 hm2 hv=>?_;split at hv
   ·rename_i z;cases hv;refine xg (zdt hX.toXE q.1) fun g1 g2=>?_;subst g2;exact DI.range2 g1 (hX.blt _ (by decide +kernel)) (DA.cons (ydh hX ha hm) (DA.cons (ydh hX hb hm2) DA.nil q.2.2) q.2.1) q.2.1 q.2.2 z
   ·cases hv
  ·refine xa (Zb.mp h) fun e' he h=>?_;subst h;exact zvx hX he hv
 ·refine xa (Zb.mp h) fun i hi h=>?_;subst h;simp only [evI] at hv;refine xk (zbf hX.toXE hi) fun a1 a2 a3 a4=>?_;refine⟨?_,rfl⟩
  unfold seqB at hv;split at hv
  ·rename_i hr;cases hv;exact DI.listV a1 (Loc.vis a2) a3 a4 hr
  ·rename_i hr;cases hv;exact DI.tupV a1 (Loc.vis a2) a3 a4 hr
  ·rename_i hr;cases hv;exact DI.list (w:=.val (.lst l)) (DF.de (DF.var a1 (Loc.vis a2) a3 a4 (by unfold view;rw [Zj,hr];rfl))) rfl
  ·cases hv
 ·split at h
  ·rename_i q;refine xa (Zb.mp h) fun e' he h=>?_;subst h;exact⟨zvx hX he hv,q⟩
  ·cases h
theorem zcc {s:Stmt} {s':S} {ρ:RhoS} {o:Out} (h:some S.never=some s') (hv:ex Γ s' ρ=some o):DS X s ρ o:=by
 cases h;simp only [ex] at hv;cases hv
theorem ylp (hX:XC X c Γ) {n:Nat} {x:Str} {px spos:Pos} {e:Expr} {s':S} {ρ:RhoS} {o:Out} (h:zvj n c x e=some s') (hv:ex Γ s' ρ=some o):DS X (.Assign [.Name x px] e spos) ρ o:=by
 unfold zvj at h;split at h
 ·rename_i elt gs scope pos;split at h
  case isFalse=>cases h
  rename_i hk0;refine xa (Za.mp h) fun i hi h=>?_;refine xa (Zb.mp h) fun e' he h=>?_;subst h;simp only [ex] at hv;refine xa (Za.mp hv) fun w hw hv=>?_;refine xa (Zb.mp hv) fun ρ1 h1 hv=>?_;subst hv;refine xg (zew h1) fun q e1=>?_;subst e1;refine xk (zbf hX.toXE hi) fun a1 a2 a3 a4=>?_;have hl:i<ρ.length:=by
   have:(after w ρ).length=ρ.length:=by unfold after;split;rfl;unfold frz;rw [Zd]
   rw [this] at q;exact q
  cases hsw:swC X.env.scope x px pos scope with
  | false=>exact DS.asg (by rw [hX.hN];exact hX.nd) a1 a2 (.inl (hX.fn _)) (by rw [yfd hX.kind,hsw]) hl ((zkl hX.toXE n).1 _ _ _ _ he hw)
  | true=>
   cases n with
   | zero=>simp only [trE] at he;cases he
   | succ n=>
    simp only [trE] at he;change trLC _ _ _ _ _ _ gs=_ at he
    unfold trLC at he;split at he
    ·refine vh (zkh hX.toXE (fun h hv=>ydi hX h hv) (fun X' c' h=>(zhv n X' c' h).1) (fun X' c' h=>(zhv n X' c' h).2.2.2.1) he hw) fun items res f fr e1 hC hI hS hz hr hb=>?_;subst e1;exact DS.asgComp (by rw [hX.hN];exact hX.nd) a1 a2 (.inl (hX.fn _)) hl (by rw [yfd hX.kind,hsw]) hX.calm hC hI hS hz hr hb
    ·cases he
 ·split at h
  ·rename_i hc;refine xa (Za.mp h) fun i hi h=>?_;refine xa (Zb.mp h) fun e' he h=>?_;subst h;simp only [ex] at hv;refine xa (Za.mp hv) fun w hw hv=>?_;refine xa (Zb.mp hv) fun ρ1 h1 hv=>?_;subst hv;refine xg (zew h1) fun q e1=>?_;subst e1;refine xk (zbf hX.toXE hi) fun a1 a2 a3 a4=>?_;have hl:i<ρ.length:=by
    have:(after w ρ).length=ρ.length:=by unfold after;split;rfl;unfold frz;rw [Zd]
    rw [this] at q;exact q
   exact DS.asg (by rw [hX.hN];exact hX.nd) a1 a2 (.inl (hX.fn _)) (zww hc) hl ((zkl hX.toXE n).1 _ _ _ _ he hw)
  ·cases h
theorem ylo (hX:XC X c Γ) {n:Nat} {ts:List Expr} {k:Nat} {tp spos:Pos} {e:Expr} {s':S} {ρ:RhoS} {o:Out} (h:zvi n c ts e=some s') (hv:ex Γ s' ρ=some o):DS X (.Assign [.Tuple ts k tp] e spos) ρ o:=by
 unfold zvi at h;split at h
 ·split at h
  ·rename_i q;refine vA q fun q1 q2 q3 q4 q5 q6 q7 q8=>?_;clear q
   refine xa (Za.mp h) fun i hi h=>?_;refine xa (Za.mp h) fun j hj h=>?_;refine xa (Za.mp h) fun a' ha h=>?_;refine xa (Zb.mp h) fun b' hb h=>?_;subst h;simp only [ex] at hv;refine xa (Za.mp hv) fun x hx hv=>?_;refine xa (Za.mp hv) fun y hy hv=>?_;split at hv
   ·rename_i z;cases hv;refine xk (zbf hX.toXE hi) fun a1 a2 a3 a4=>?_;refine xk (zbf hX.toXE hj) fun b1 b2 b3 b4=>?_;have sx:=q7;have sy:=q8;rw [<- hX.hsc] at sx sy;exact DS.par hX.calm (by rw [hX.hN];exact hX.nd) a1 b1 z.2.2.1 sx sy (DA.cons (ydi hX ha hx) (DA.cons (ydi hX hb hy) DA.nil q4) q3) z.2.2.2.1 z.2.2.2.2 z.1 z.2.1 (yhj hX.kind sx sy q1 q2 q3 q4 q5 q6)
   ·cases hv
  ·cases h
 ·split at h
  ·rename_i q;refine xa (Za.mp h) fun is hi h=>?_;refine xa (Zb.mp h) fun e' he h=>?_;subst h;simp only [ex] at hv;refine xa (Za.mp hv) fun w hw hv=>?_;refine xa (Zb.mp hv) fun ρ1 h1 hv=>?_;subst hv;exact DS.asgT ((zkl hX.toXE n).1 _ _ _ _ he hw) (zvd hX (by show (slots c _).map Tg.tup=_;rw [hi];rfl) h1) (by unfold swapsWithSole;exact zww q.1) (yco q.2) rfl
  ·cases h
theorem asg_ok (hX:XC X c Γ) {n:Nat} {t:Expr} {spos:Pos} {e:Expr} {s':S} {ρ:RhoS} {o:Out} (h:yhe n c e t=some s') (hv:ex Γ s' ρ=some o):DS X (.Assign [t] e spos) ρ o:=by
 unfold yhe at h;split at h
 ·exact ylp hX h hv
 ·split at h
  ·rename_i hc;refine xa (Za.mp h) fun i hi h=>?_;refine xa (Za.mp h) fun k' hk h=>?_;refine xa (Zb.mp h) fun e' he h=>?_;subst h;simp only [ex] at hv;refine xa (Za.mp hv) fun w hw hv=>?_;refine xa (Za.mp hv) fun j hj hv=>?_;refine xk (zbf hX.toXE hi) fun a1 a2 a3 a4=>?_;split at hv
   ·rename_i l d hr _;split at hv
    ·rename_i hf;refine xa (Zb.mp hv) fun m hm hv=>?_;subst hv;exact DS.seti a1 (Loc.vis a2) a3 a4 hr ((zkl hX.toXE n).1 _ _ _ _ he hw) (ydh hX hk hj) hf hm hc.2 (yjg hc.1) zwx
    ·cases hv
   ·cases hv
  ·cases h
 ·exact ylo hX h hv
 ·exact zcc h hv
theorem ret_ok (hX:XC X c Γ) {n:Nat} {spos:Pos} {e:Expr} {s':S} {ρ:RhoS} {o:Out} (h:yhc n c e=some s') (hv:ex Γ s' ρ=some o):DS X (.Return (some e) spos) ρ o:=by
 unfold yhc at h;split at h
 ·refine xa (Zb.mp h) fun i hi h=>?_;subst h;simp only [ex] at hv;refine xk (zbf hX.toXE hi) fun a1 a2 a3 a4=>?_;split at hv
  ·rename_i l e;cases hv;exact DS.retOwn a1 (Loc.vis a2) a3 a4 e
  ·rename_i d e;cases hv;refine DS.ret (DF.var a1 (Loc.vis a2) a3 a4 ?_).de;unfold view;rw [Zj,e];rfl
  ·cases hv
 ·refine xa (Zb.mp h) fun e' he h=>?_;subst h;simp only [ex] at hv;refine xa (Zb.mp hv) fun w hw hv=>?_;subst hv;exact DS.ret ((zkl hX.toXE n).1 _ _ _ _ he hw)
theorem x_ok (hX:XC X c Γ) {n:Nat} {spos:Pos} {e:Expr} {s':S} {ρ:RhoS} {o:Out} (h:trX n c e=some s') (hv:ex Γ s' ρ=some o):DS X (.Expr e spos) ρ o:=by
 unfold trX at h;split at h
 case h_2=>exact zcc h hv
 rename_i p hp;obtain⟨x,m,ap,es,cp⟩:=p
 refine xb (xV_s hp) fun xp qz1=>?_;subst qz1
 dsimp only at h;unfold trX2 at h;split at h
 ·split at h
  ·rename_i hc;refine xa (Za.mp h) fun i hi h=>?_;refine xa (Zb.mp h) fun e' he h=>?_;subst h;simp only [ex] at hv;refine xa (Za.mp hv) fun w hw hv=>?_;refine xk (zbf hX.toXE hi) fun a1 a2 a3 a4=>?_;split at hv
   ·rename_i l d hr;split at hv
    ·rename_i hf;cases hv;refine xi hc fun c1 c2 c3=>?_;clear hc
     subst c1;exact DS.app a1 (Loc.vis a2) a3 a4 hr ((zkl hX.toXE n).1 _ _ _ _ he hw) c3 hf.1 hf.2 c2
    ·cases hv
   ·cases hv
  ·cases h;simp only [ex] at hv;cases hv
 ·split at h
  ·rename_i hl;split at h
   ·rename_i hm;refine xa (Zb.mp h) fun i hi h=>?_;subst h;subst hm;refine xk (zbf hX.toXE hi) fun a1 a2 a3 a4=>?_;simp only [ex] at hv;split at hv
    ·rename_i l hr;split at hv
     ·cases hv
     ·rename_i hn;cases hv;exact DS.pop a1 (Loc.vis a2) a3 a4 hr hn hl
    ·cases hv
   ·split at h
    ·rename_i hm;refine xa (Zb.mp h) fun i hi h=>?_;subst h;subst hm;refine xk (zbf hX.toXE hi) fun a1 a2 a3 a4=>?_;simp only [ex] at hv;split at hv
     ·rename_i l hr;cases hv;exact DS.clr a1 (Loc.vis a2) a3 a4 hr hl
     ·cases hv
    ·cases h;simp only [ex] at hv;cases hv
  ·cases h;simp only [ex] at hv;cases hv
 ·exact zcc h hv
theorem trS_ok (hX:XC X c Γ):∀ n,(∀ s s' ρ o,trS n c s=some s'->ex Γ s' ρ=some o->DS X s ρ o)/\(∀ l l' ρ o,trSs n c l=some l'->exs Γ l' ρ=some o->DSs X l ρ o):=by
 intro n;induction n with
 | zero=>exact⟨fun e e' ρ w h=>by (simp only [trS] at h;cases h),fun e e' ρ w h=>by (simp only [trSs] at h;cases h)⟩
 | succ n ih=>
  refine xg ih fun iS iSs=>?_;clear ih
  refine⟨fun s s' ρ o h hv=>?_,fun l l' ρ o h hv=>?_⟩
  ·simp only [trS] at h;cases s with
   | Assign ts0 e0 p0=>
    cases ts0 with
    | nil=>exact zcc h hv
    | cons t0 r0=>
     cases r0 with
     | nil=>exact asg_ok hX h hv
     | cons _ _=>exact zcc h hv
   | Return v0 p0=>
    cases v0 with
    | none=>exact zcc h hv
    | some e0=>exact ret_ok hX h hv
   | If t0 a0 b0 p0=>
    change ((trT n c t0).bind fun t'=>(trSs n c a0).bind fun a'=>(trSs n c b0).map fun b'=>S.iff t' a' b')=some s' at h
    refine xa (Za.mp h) fun t' ht h=>?_;refine xa (Za.mp h) fun a' ha h=>?_;refine xa (Zb.mp h) fun b' hb h=>?_;subst h;simp only [ex] at hv;refine xa (Za.mp hv) fun k hk hv=>?_;cases k with
    | true=>
     rw [if_pos rfl] at hv;exact DS.ifT ((zve hX.toXE n).1 _ _ _ _ ht hk) (iSs _ _ _ _ ha hv)
    | false=>
     rw [if_neg Z2] at hv;exact DS.ifF ((zve hX.toXE n).1 _ _ _ _ ht hk) (iSs _ _ _ _ hb hv)
   | While t0 b0 els0 p0=>
    cases els0 with
    | cons _ _=>exact zcc h hv
    | nil=>
     change ((trT n c t0).bind fun t'=>(trSs n c b0).map fun b'=>S.whl t' b')=some s' at h
     refine xa (Za.mp h) fun t' ht h=>?_;refine xa (Zb.mp h) fun b' hb h=>?_;subst h;simp only [ex] at hv;refine xb (zjt hv) fun m hm=>?_;exact DS.while_ hX.po (fun ρ k hk=>(zve hX.toXE n).1 _ _ _ _ ht hk) (fun ρ o ho=>iSs _ _ _ _ hb ho) hm
   | For tg0 it0 b0 els0 p0=>
    cases els0 with
    | cons _ _=>exact zcc h hv
    | nil=>
     change ((trTg c tg0).bind fun g=>(trI1 (trE n c) c tg0 it0).bind fun i=>(trSs n c b0).map fun b'=>S.frr g i b')=some s' at h
     refine xa (Za.mp h) fun g hg h=>?_;refine xa (Za.mp h) fun i hi h=>?_;refine xa (Zb.mp h) fun b' hb h=>?_;subst h;simp only [ex] at hv;obtain⟨⟨l,ρ1⟩,hl,hv⟩:=Za.mp hv
     refine xg (trI_ok hX hi hl) fun d1 d2=>?_;exact DS.for_ hX.po hX.calm d1 (fun d ρ ρ' hd=>zvd hX hg hd) (fun ρ o ho=>iSs _ _ _ _ hb ho) hv (noSet d2)
   | Expr e0 p0=>exact x_ok hX h hv
   | _=>exact zcc h hv
  ·cases l with
   | nil=>
    simp only [trSs] at h;cases h;simp only [exs] at hv;cases hv;exact DSs.nil
   | cons s l=>
    simp only [trSs] at h;refine xa (Za.mp h) fun s' hs h=>?_;refine xa (Zb.mp h) fun l2 hl h=>?_;subst h;simp only [exs] at hv;refine xa (Za.mp hv) fun o1 h1 hv=>?_;cases o1 with
    | nx ρ1=>exact DSs.next (iS _ _ _ _ hs h1) (iSs _ _ _ _ hl hv)
    | rt w=>cases hv;exact DSs.ret (iS _ _ _ _ hs h1)
end
end DL
namespace DL
open PySem L2 PyProof.Rows
def GFn (P:Program) (w:World) (K:PySem.W.Frag) (mg:Str->Option Value) (base:Heap) (k:Nat) (x:Str) (n:Nat) (φ:List D->Option W):Prop:=
 ∃ (a:Addr) (fd:FuncData) (ps:List Str),FnOk P w K mg base CX0 k a fd ps (spD K n φ)/\mg x=some (.ref a)/\PySem.W.keepIn K (.ref a)=true/\Binds K fd ps []
def GFr (P:Program) (w:World) (K:PySem.W.Frag) (mg:Str->Option Value) (base:Heap) (k:Nat) (x:Str) (n:Nat) (φ:List D->Option W):Prop:=
 ∃ (a:Addr) (fd:FuncData) (ps:List Str),FnOk P w K mg base (CX1 P w) k a fd ps (spR K n φ)/\mg x=some (.ref a)/\PySem.W.keepIn K (.ref a)=true/\Binds K fd ps []
section
variable {P:Program} {w:World} {K:PySem.W.Frag} {mg:Str->Option Value} {base:Heap}
theorem GFr.mono {j k:Nat} {x:Str} {n:Nat} {φ:List D->Option W} (G:GFr P w K mg base j x n φ) (h:j<=k):GFr P w K mg base k x n φ:=by
 refine xn G fun a fd ps F r=>?_;clear G
 exact⟨a,fd,ps,F.mono h,r⟩
theorem GFn.mono {j k:Nat} {x:Str} {n:Nat} {φ:List D->Option W} (G:GFn P w K mg base j x n φ) (h:j<=k):GFn P w K mg base k x n φ:=by
 refine xn G fun a fd ps F r=>?_;clear G
 exact⟨a,fd,ps,F.mono h,r⟩
theorem GFn.imp {k:Nat} {x:Str} {n:Nat} {φ ψ:List D->Option W} (G:GFn P w K mg base k x n φ) (h:∀ ds w,ds.length=n->ψ ds=some w->φ ds=some w):GFn P w K mg base k x n ψ:=by
 refine xn G fun a fd ps F r=>?_;clear G
 refine⟨a,fd,ps,F.imp fun vs H Q E hz=>xz hz fun Fz ds w h1 h2 h3 h4 h5=>⟨Fz,ds,w,h1,h2,h3,h ds w h3 h4,h5⟩,r⟩
theorem zvp {N:List Str} {vs:List V} {i:Nat} {v:V} (h:vs[i]? = some v):(L2.start N vs)[i]? = some (some v):=by
 unfold L2.start;have hi:i<vs.length:=(Zn.mp h).1;rw [Z4 (by rw [Zd];exact hi),Zj,h];rfl
theorem ybl {F:Hp} {H:Hp} {ds:List D} {vs:List V} {N:List Str} (h1:Same F H) (h2:DenL K F ds vs):SR K H F F H (L2.start N vs) (ds.map (fun d=>some (.sh d))++List.replicate (N.length-ds.length) none):=by
 have hl:vs.length=ds.length:=h2.length;refine⟨h1,Same.refl _,Same.refl _,fun a o e=>.inl e,fun i d e=>?_,fun i l e=>?_,fun i j l m a e=>?_,?_⟩
 ·by_cases hi:i<ds.length
  ·rw [Z4 (by rw [Zd];exact hi),Zj] at e;cases q:ds[i]? with
   | none=>rw [q] at e;cases e
   | some d'=>
    rw [q] at e;cases e;refine xa (h2.get q) fun v hv r=>?_;exact⟨v,zvp hv,r⟩
  ·rw [Zx (by rw [Zd];omega)] at e;rw [Qm] at e;split at e <;> cases e
 ·by_cases hi:i<ds.length
  ·rw [Z4 (by rw [Zd];exact hi),Zj] at e;cases q:ds[i]? with
   | none=>rw [q] at e;cases e
   | some d'=>rw [q] at e;cases e
  ·rw [Zx (by rw [Zd];omega)] at e;rw [Qm] at e;split at e <;> cases e
 ·by_cases hi:i<ds.length
  ·rw [Z4 (by rw [Zd];exact hi),Zj] at e;cases q:ds[i]? with
   | none=>rw [q] at e;cases e
   | some d'=>rw [q] at e;cases e
  ·rw [Zx (by rw [Zd];omega)] at e;rw [Qm] at e;split at e <;> cases e
 ·unfold L2.start;rw [Zs,Zs,Zd,Zd,Wc,Wc,hl]
structure Deps (P:Program) (w:World) (K:PySem.W.Frag) (mg:Str->Option Value) (base:Heap) (k:Nat) (Γ:Nat->List D->Option W) (fns rzs:List (Str×Nat×Nat)) (xs:Bool):Prop where
 fns:∀ x f n,fns.lookup x=some (f,n)->GFn P w K mg base k x n (Γ f)
 rzs:∀ x f n,rzs.lookup x=some (f,n)->GFr P w K mg base k x n (Γ f)
 xf:xs=true->XFacts K mg
 blt:∀ x∈zct,mg x=none
theorem xc_of {CX:CXT} {qual:Str} {sc:Scope} {f:Addr} {N ps:List Str} {k:Nat} {fns rzs:List (Str×Nat×Nat)} {xs:Bool} {Γ:Nat->List D->Option W} {cdv:Value} {A:Around} {outer:List Env} {s:Shared} {H:Hp} {E:XK} (S:FnScope N ps sc) (hd:Deps P w K mg base k Γ fns rzs xs)
  (hr:Room k (A.deeper (envOfC qual sc s.heap.objs.size f cdv))):XC (cxOf CX P w K mg base N qual sc f cdv A outer s H E).nox ⟨N,sc,fns,rzs,xs⟩ Γ:=by
 refine⟨⟨rfl,rfl,S.nd,rfl,S.kind,fun x f n h=>?_,hd.xf,hr.units,hd.blt⟩,fun _=>rfl,PassesOwn.never,fun x f n h=>?_,rfl,rfl,rfl⟩
 ·refine xt (hd.fns x f n h) fun a fd ps G g1 g2 g3=>?_;exact⟨k,a,fd,ps,G,hr,g1,g2,g3⟩
 ·refine xt (hd.rzs x f n h) fun a fd ps G g1 g2 g3=>?_;exact⟨k,a,fd,ps,G,hr,g1,g2,g3⟩
theorem zsg {x qual:Str} {st:Stmt} {f:Addr} {fd:FuncData} {N ps:List Str} {k m:Nat} {fns rzs:List (Str×Nat×Nat)} {xs:Bool} {Γ:Nat->List D->Option W} {body:Ss} (F:Fun K x qual st f fd) (S:FnScope N ps (Bw st))
  (hTr:trSs m ⟨N,Bw st,fns,rzs,xs⟩ (Bz st)=some body) (hd:Deps P w K mg base k Γ fns rzs xs) :
  FnOk P w K mg base CX0 (k+1) f fd ps (spD K ps.length (run Γ body N.length)):=by
 refine F.ok S (fun vs H Q E hz=>xz hz fun Fz ds w h1 h2 h3 h4 h5=>by rw [h2.length];exact h3) (fun cdv A outer s H vs Q E hr hz=>xz hz fun Fz ds wv h1 h2 h3 h4 h5=>?_);have hX:=xc_of (CX:=CX0) (E:=E) (outer:=outer) (H:=H) S hd hr;unfold run at h4;refine xa (Za.mp h4) fun o ho h4=>?_;have hS:=(trS_ok hX m).2 _ _ _ _ hTr ho;refine⟨_,hS H Fz,Fz,ybl h1 h2,?_⟩
 cases o with
 | rt w'=>
  cases h4;exact fun v H' F' r q=>h5 v H' F' r.same r.base r.sub (fun a o e=>r.new a o e) q
 | nx ρ'=>
  cases h4;exact fun σ' H' F' s' S'=>h5 _ H' F' S'.same S'.base S'.sub (fun a o e=>S'.new a o e) (RW.v Den.non_mk)
theorem gfn_of {x qual:Str} {st:Stmt} {f:Addr} {fd:FuncData} {N ps:List Str} {k m n:Nat} {fns rzs:List (Str×Nat×Nat)} {xs:Bool} {Γ:Nat->List D->Option W} {body:Ss} {φ:List D->Option W} (F:Fun K x qual st f fd) (S:FnScope N ps (Bw st)) (hB:Binds K fd ps [])
  (hm:mg x=some (.ref f)) (hTr:trSs m ⟨N,Bw st,fns,rzs,xs⟩ (Bz st)=some body) (hn:ps.length=n) (hd:Deps P w K mg base k Γ fns rzs xs)
  (hφ:∀ ds w,ds.length=n->φ ds=some w->run Γ body N.length ds=some w):GFn P w K mg base (k+1) x n φ:=by
 subst hn;exact GFn.imp ⟨f,fd,ps,zsg F S hTr hd,hm,F.kp,hB⟩ hφ
theorem Fun.okR {x qual:Str} {st:Stmt} {f:Addr} {fd:FuncData} {N ps:List Str} {k:Nat} {sp:Sp} (F:Fun K x qual st f fd) (S:FnScope N ps (Bw st)) (len:∀ vs H Q E,sp vs H Q E->vs.length=ps.length)
  (hbody:∀ (cdv:Value) (A:Around) (outer:List Env) (s:Shared) (H:Hp) (vs:List V) (Q:VK) (E:XK),Room k (A.deeper (envOfC qual (Bw st) s.heap.objs.size f cdv))->sp vs H Q E ->
   ∃ t,PSs (cxOf (CX1 P w) P w K mg base N qual (Bw st) f cdv A outer s H E) (Bz st) t/\t {nx:=fun _ H'=>Q .non H',rt:=Q} (L2.start N vs) H):FnOk P w K mg base (CX1 P w) (k+1) f fd ps sp:=by
 obtain⟨oc,od,kV,doc,pm,an,cdv,ct,osl,rfl,lk,hcd⟩:=F.ex
 exact fn_of lk hcd S len fun A outer s H vs Q E hr hsp=>hbody cdv A outer s H vs Q E hr hsp
end
end DL
namespace DL
open PySem L2 PyProof.Rows
def At (K:PySem.W.Frag) (x:Str) (st:Stmt):Prop:=∃ (f:Addr) (oc:Value) (od:Option Addr) (kV doc pm:Value) (an:Option Addr) (cdv ct:Value) (osl:Array (Option Value)),
 PySem.W.nsIn K mainGlobals x=some (some (.ref f))/\K.lookup f=some ⟨oc,od,.func (PySem.W.fnOf x x (zck st) (Bz st) (Bw st) .none kV doc pm an cdv ct),osl⟩/\PySem.W.codeIn K cdv x=true/\PySem.W.keepIn K (.ref f)=true
theorem at_mk {K:PySem.W.Frag} {x:Str} {st:Stmt} {f:Addr} {oc:Value} {od:Option Addr} {kV doc pm:Value} {an:Option Addr} {cdv ct:Value} {osl:Array (Option Value)} (a:PySem.W.nsIn K mainGlobals x=some (some (.ref f)))
  (l:K.lookup f=some ⟨oc,od,.func (PySem.W.fnOf x x (zck st) (Bz st) (Bw st) .none kV doc pm an cdv ct),osl⟩) (c:PySem.W.codeIn K cdv x=true) (k:PySem.W.keepIn K (.ref f)=true):At K x st:=⟨f,oc,od,kV,doc,pm,an,cdv,ct,osl,a,l,c,k⟩
def Bnd (x:Str) (st:Stmt) (ps:List Str):Prop:=∀ (kV doc pm:Value) (an:Option Addr) (cdv ct:Value) (us:List Value),us.length=ps.length->bindArgs (PySem.W.fnOf x x (zck st) (Bz st) (Bw st) .none kV doc pm an cdv ct) ⟨us,[]⟩=pure (ps.zip us)
def Calls (P:Program) (w:World) (K:PySem.W.Frag) (mg:Str->Option Value) (base:Heap) (k:Nat) (Γ:Nat->List D->Option W) (fns:List (Str×Nat×Nat)):Prop:=∀ x f n,fns.lookup x=some (f,n)->GFn P w K mg base k x n (Γ f)
def CallsR (P:Program) (w:World) (K:PySem.W.Frag) (mg:Str->Option Value) (base:Heap) (k:Nat) (Γ:Nat->List D->Option W) (fns:List (Str×Nat×Nat)):Prop:=∀ x f n,fns.lookup x=some (f,n)->GFr P w K mg base k x n (Γ f)
section
variable {P:Program} {w:World} {K:PySem.W.Frag} {mg:Str->Option Value} {base:Heap} {Γ:Nat->List D->Option W}
theorem Calls.nil {k:Nat}:Calls P w K mg base k Γ []:=fun x f n h=>by cases h
theorem Calls.cons {j k f n:Nat} {x:Str} {l:List (Str×Nat×Nat)} (h:GFn P w K mg base j x n (Γ f)) (hj:j<=k) (r:Calls P w K mg base k Γ l):Calls P w K mg base k Γ ((x,f,n)::l):=fun y g m e=>by
 rw [W8] at e;cases q:(y == x) with
 | true=>
  rw [q] at e;cases e;have:=eq_of_beq q
  subst this;exact h.mono hj
 | false=>rw [q] at e;exact r y g m e
theorem CallsR.nil {k:Nat}:CallsR P w K mg base k Γ []:=fun x f n h=>by cases h
theorem CallsR.cons {j k f n:Nat} {x:Str} {l:List (Str×Nat×Nat)} (h:GFr P w K mg base j x n (Γ f)) (hj:j<=k) (r:CallsR P w K mg base k Γ l):CallsR P w K mg base k Γ ((x,f,n)::l):=fun y g m e=>by
 rw [W8] at e;cases q:(y == x) with
 | true=>
  rw [q] at e;cases e;have:=eq_of_beq q
  subst this;exact h.mono hj
 | false=>rw [q] at e;exact r y g m e
theorem zac {h:Heap} {x:Str} {st:Stmt} {N ps:List Str} {k m n:Nat} {fns rzs:List (Str×Nat×Nat)} {xs:Bool} {body:Ss} {φ:List D->Option W} (A:At K x st) (X:K.In h) (G:h.Ns mainGlobals mg) (S:FnScope N ps (Bw st)) (B:Bnd x st ps)
  (hTr:trSs m ⟨N,Bw st,fns,rzs,xs⟩ (Bz st)=some body) (hn:ps.length=n) (hd:Deps P w K mg base k Γ fns rzs xs)
  (hφ:∀ ds w,ds.length=n->φ ds=some w->run Γ body N.length ds=some w):GFn P w K mg base (k+1) x n φ:=by
 obtain⟨f,oc,od,kV,doc,pm,an,cdv,ct,osl,a,l,c,kp⟩:=A
 have F:=ygg (st:=st) l c kp;exact gfn_of F S (F.binds B) (Bn X G a) hTr hn hd hφ
theorem law_at {h:Heap} {x p:Str} {st:Stmt} {N:List Str} {k m:Nat} {fa:Addr} {fns rzs:List (Str×Nat×Nat)} {xs:Bool} {body:Ss} (A:At K x st) (X:K.In h) (G:h.Ns mainGlobals mg) (hfa:mg x=some (.ref fa)) (S:FnScope N [p] (Bw st)) (B:Bnd x st [p])
  (hTr:trSs m ⟨N,Bw st,fns,rzs,xs⟩ (Bz st)=some body) (hc:∀ base:Heap,K.In base->base.Ns mainGlobals mg->Deps P w K mg base k Γ fns rzs xs) :
  ∃ fd:FuncData,(∀ (s:Shared) (v:Value),BindsTo s fd ⟨[v],[]⟩ [(p,v)])/\∀ base:Heap,K.In base->base.Ns mainGlobals mg->FnOk P w K mg base CX0 (k+1) fa fd [p] (spD K 1 (run Γ body N.length)):=by
 obtain⟨f,oc,od,kV,doc,pm,an,cdv,ct,osl,a,l,c,kp⟩:=A
 have e:=hfa.symm.trans (Bn X G a);cases e;have F:=ygg (st:=st) l c kp;exact⟨_,fun s v=>.of_eq (B kV doc pm an cdv ct [v] rfl),fun base hk hn=>zsg F S hTr (hc base hk hn)⟩
theorem ydc {n:Nat} {φ:List D->Option W} (hφ:∀ ns:List Int,ns.length<=n->φ [.lst (ns.map D.int)]=some (.val (.bl true))) (H:Hp) (a:Addr) (ns:List Int) (hl:ns.length<=n) (hS:SqL K H a (ns.map V.int)) :
  spD K 1 φ [.ref a] H (fun v _=>v=.bl true) fun _ _ _=>False:=
 ⟨H,[.lst (ns.map D.int)],.val (.bl true),Same.refl _,DenL.cons (Den.lst_mk hS (DenL.ints ns)) DenL.nil,rfl,hφ ns hl,fun v H' F' _ _ _ _ q=>(show Den K F' (.bl true) v from q).bl⟩
theorem yeb {h:Heap} (X:K.In h) (G:h.Ns mainGlobals mg) (hz:∀ x∈zct,PySem.W.nsIn K mainGlobals x=some none):∀ x∈zct,mg x=none:=fun x hx=>PySem.W.mg_none_of X G (hz x hx)
end
section
variable {K:PySem.W.Frag} {mg:Str->Option Value}
end
end DL
namespace DL
def bin2 (f:D->D->Option W):Option D->Option D->Option W
 | some x,some y=>f x y
 | _,_=>none
def un1 (f:D->Option W):Option D->Option W
 | some x=>f x
 | _=>none
def andO:Option Bool->Option W->Option W
 | some true,y=>y
 | some false,_=>some (.val (.bl false))
 | none,_=>none
def orO:Option Bool->Option W->Option W
 | some true,_=>some (.val (.bl true))
 | some false,y=>y
 | none,_=>none
def iffO {α:Type}:Option Bool->Option α->Option α->Option α
 | some true,x,_=>x
 | some false,_,y=>y
 | none,_,_=>none
def appL (f:List D->Option W):Option (List D)->Option W
 | some l=>f l
 | none=>none
def consO:Option D->Option (List D)->Option (List D)
 | some d,some l=>some (d::l)
 | _,_=>none
def slO:Option D->Option (Option Int)->Option (Option Int)->Option W
 | some x,some i,some j=>slD x i j
 | _,_,_=>none
def cmpW (c:Cm) (x y:D):Option W:=(cmpD c x y).map fun k=>.val (.bl k)
def ixW (x y:D):Option W:=(ixD x y).map W.val
def negW:D->Option W
 | .int i=>some (.val (.int (-i)))
 | _=>none
def notW:Option Bool->Option W
 | some k=>some (.val (.bl (!k)))
 | none=>none
def tupW (ds:List D):Option W:=if ds.length<=PySem.sizeLine then some (.val (.tup ds)) else none
def lstW (ds:List D):Option W:=if ds.length<=PySem.sizeLine then some (.new ds) else none
def isiW (t:Ty) (d:D):Option W:=(ztw t d).map fun k=>.val (.bl k)
def isxW (ys:List PySem.Str) (d:D):Option W:=(isX ys d).map fun k=>.val (.bl k)
theorem isiW_i {t:Ty} {i:Int}:isiW t (.int i)=some (.val (.bl (isTy t (.int i)))):=rfl
theorem isiW_b {t:Ty} {i:Bool}:isiW t (.bl i)=some (.val (.bl (isTy t (.bl i)))):=rfl
theorem isiW_t {t:Ty} {l:List D}:isiW t (.tup l)=some (.val (.bl (isTy t (.tup l)))):=rfl
theorem isiW_l {t:Ty} {l:List D}:isiW t (.lst l)=some (.val (.bl (isTy t (.lst l)))):=rfl
theorem isiW_n {t:Ty}:isiW t .non=some (.val (.bl (isTy t .non))):=rfl
theorem isxW_n {ys:List PySem.Str}:isxW ys .non=some (.val (.bl false)):=rfl
section
variable {Γ:Nat->List D->Option W} {ρ:Rho}
def evd (Γ:Nat->List D->Option W) (e:E) (ρ:Rho):Option D:=(ev Γ e ρ).map W.d
def evb (Γ:Nat->List D->Option W) (e:E) (ρ:Rho):Option Bool:=(evd Γ e ρ).bind zdb
theorem ev_var {i:Nat}:ev Γ (.var i) ρ=(varD ρ i).map W.val:=by simp only [ev]
theorem ev_int {i:Int}:ev Γ (.int i) ρ=some (.val (.int i)):=by simp only [ev]
theorem ev_bl {i:Bool}:ev Γ (.bl i) ρ=some (.val (.bl i)):=by simp only [ev]
theorem ev_bin {o:Op} {a b:E}:ev Γ (.bin o a b) ρ=bin2 (opW o) (evd Γ a ρ) (evd Γ b ρ):=by
 simp only [ev,evd];cases (ev Γ a ρ) <;> cases (ev Γ b ρ) <;> rfl
theorem ev_neg {a:E}:ev Γ (.neg a) ρ=un1 negW (evd Γ a ρ):=by
 simp only [ev,evd];cases (ev Γ a ρ) with
 | none=>rfl
 | some w=>simp only [Y5,Yt,un1];cases w.d <;> rfl
theorem ev_cmp {o:Cm} {a b:E}:ev Γ (.cmp o a b) ρ=bin2 (cmpW o) (evd Γ a ρ) (evd Γ b ρ):=by
 simp only [ev,evd];cases (ev Γ a ρ) <;> cases (ev Γ b ρ) <;> rfl
theorem ev_and {a b:E}:ev Γ (.and a b) ρ=andO (evb Γ a ρ) (ev Γ b ρ):=by
 simp only [ev,evd,evb];cases (Option.map W.d (ev Γ a ρ)).bind zdb with
 | none=>rfl
 | some k=>cases k <;> rfl
theorem ev_or {a b:E}:ev Γ (.or a b) ρ=orO (evb Γ a ρ) (ev Γ b ρ):=by
 simp only [ev,evd,evb];cases (Option.map W.d (ev Γ a ρ)).bind zdb with
 | none=>rfl
 | some k=>cases k <;> rfl
theorem ev_not {a:E}:ev Γ (.not a) ρ=notW (evb Γ a ρ):=by
 simp only [ev,evd,evb];cases (Option.map W.d (ev Γ a ρ)).bind zdb <;> rfl
theorem ev_tup {l:Es}:ev Γ (.tup l) ρ=appL tupW (evs Γ l ρ):=by
 simp only [ev];cases (evs Γ l ρ) <;> rfl
theorem ev_lst {l:Es}:ev Γ (.lst l) ρ=appL lstW (evs Γ l ρ):=by
 simp only [ev];cases (evs Γ l ρ) <;> rfl
theorem ev_ix {a b:E}:ev Γ (.ix a b) ρ=bin2 ixW (evd Γ a ρ) (evd Γ b ρ):=by
 simp only [ev,evd];cases (ev Γ a ρ) <;> cases (ev Γ b ρ) <;> rfl
theorem ev_sl {a:E} {lo hi:EO}:ev Γ (.sl a lo hi) ρ=slO (evd Γ a ρ) (evo Γ lo ρ) (evo Γ hi ρ):=by
 simp only [ev,evd];cases (ev Γ a ρ) <;> cases (evo Γ lo ρ) <;> cases (evo Γ hi ρ) <;> rfl
theorem ykj {f:Nat} {l:Es}:ev Γ (.call f l) ρ=appL (Γ f) (evs Γ l ρ):=by
 simp only [ev];cases (evs Γ l ρ) <;> rfl
theorem ev_bi {f:Bi} {l:Es}:ev Γ (.bi f l) ρ=appL (biW f) (evs Γ l ρ):=by
 simp only [ev];cases (evs Γ l ρ) <;> rfl
theorem zym:evs Γ .nil ρ=some []:=by simp only [evs]
theorem zsi {e:E} {l:Es}:evs Γ (.cons e l) ρ=consO (evd Γ e ρ) (evs Γ l ρ):=by
 simp only [evs,evd];cases (ev Γ e ρ) <;> cases (evs Γ l ρ) <;> rfl
theorem ykg:evo Γ .non ρ=some none:=by simp only [evo]
theorem ykf {e:E}:evo Γ (.som e) ρ=((evd Γ e ρ).bind dInt).map some:=by simp only [evo,evd]
end
def yhg (Γ:Nat->List D->Option W):Option Out->Ss->Option Out
 | some (.nx ρ),l=>exs Γ l ρ
 | some (.rt w),_=>some (.rt w)
 | none,_=>none
def asgO (ρ:RhoS) (i:Nat):Option W->Option Out
 | some w=>(setR (after w ρ) i w.b).map Out.nx
 | none=>none
def unpO (ρ:RhoS) (is:List Nat):Option W->Option Out
 | some w=>(zbh (.tup is) w.d (after w ρ)).map Out.nx
 | none=>none
def parO (ρ:RhoS) (i j:Nat):Option D->Option D->Option Out
 | some x,some y=>if lf x=true/\lf y=true/\i≠j/\i<ρ.length/\j<ρ.length then some (.nx ((ρ.set i (some (.sh x))).set j (some (.sh y)))) else none
 | _,_=>none
def retO:Option W->Option Out
 | some w=>some (.rt w)
 | none=>none
def yif:Option (Option B)->Option Out
 | some (some (.ow l))=>some (.rt (.new l))
 | some (some (.sh d))=>some (.rt (.val d))
 | _=>none
def forO (bt:D->RhoS->Option RhoS) (fb:RhoS->Option Out):Option (List D×RhoS)->Option Out
 | some (l,ρ)=>forN bt fb l ρ
 | none=>none
def outO:Option Out->Option W
 | some (.rt w)=>some w
 | some (.nx _)=>some (.val .non)
 | none=>none
def seqO (ρ:RhoS):Option W->Option (List D×RhoS)
 | some w=>match w.d with
  | .lst l=>some (l,after w ρ)
  | .tup l=>some (l,after w ρ)
  | _=>none
 | none=>none
def rng1O (ρ:RhoS):Option D->Option (List D×RhoS)
 | some (.int n)=>if -(2^62)<=n/\n<2^62 then some (zbk 0 n.toNat,ρ) else none
 | _=>none
def rng2O (ρ:RhoS):Option D->Option D->Option (List D×RhoS)
 | some (.int m),some (.int n)=>if -(2^62)<=m/\m<2^62 /\ -(2^62)<=n/\n<2^62 then some (zbk m (n-m).toNat,ρ) else none
 | _,_=>none
def enumO (ρ:RhoS):Option D->Option (List D×RhoS)
 | some (.lst l)=>some (ydr l,frz ρ)
 | _=>none
section
variable {Γ:Nat->List D->Option W} {ρ:RhoS}
theorem ykb:exs Γ .nil ρ=some (.nx ρ):=by simp only [exs]
theorem zsh {s:S} {l:Ss}:exs Γ (.cons s l) ρ=yhg Γ (ex Γ s ρ) l:=by
 simp only [exs];cases ex Γ s ρ with
 | none=>rfl
 | some o=>cases o <;> rfl
theorem ex_asg {i:Nat} {e:E}:ex Γ (.asg i e) ρ=asgO ρ i (ev Γ e (view ρ)):=by
 simp only [ex];cases ev Γ e (view ρ) <;> rfl
theorem ex_unp {is:List Nat} {e:E}:ex Γ (.unp is e) ρ=unpO ρ is (ev Γ e (view ρ)):=by
 simp only [ex];cases ev Γ e (view ρ) <;> rfl
theorem ex_par {i j:Nat} {a b:E}:ex Γ (.par i j a b) ρ=parO ρ i j (evd Γ a (view ρ)) (evd Γ b (view ρ)):=by
 simp only [ex,evd];cases ev Γ a (view ρ) <;> cases ev Γ b (view ρ) <;> rfl
theorem ex_ret {e:E}:ex Γ (.ret e) ρ=retO (ev Γ e (view ρ)):=by
 simp only [ex];cases ev Γ e (view ρ) <;> rfl
theorem ykd {i:Nat}:ex Γ (.retV i) ρ=yif ρ[i]?:=by
 simp only [ex];cases ρ[i]? with
 | none=>rfl
 | some o=>cases o with
  | none=>rfl
  | some b=>cases b <;> rfl
theorem ex_iff {c:E} {a b:Ss}:ex Γ (.iff c a b) ρ=iffO (evb Γ c (view ρ)) (exs Γ a ρ) (exs Γ b ρ):=by
 simp only [ex,evB,evb,evd];cases (Option.map W.d (ev Γ c (view ρ))).bind zdb with
 | none=>rfl
 | some k=>cases k <;> rfl
theorem ex_whl {c:E} {b:Ss}:ex Γ (.whl c b) ρ=zho (evB Γ c) (exs Γ b) ρ:=by simp only [ex]
theorem ex_frr {t:Tg} {it:It'} {b:Ss}:ex Γ (.frr t it b) ρ=forO (zbh t) (exs Γ b) (evI Γ it ρ):=by
 simp only [ex];cases evI Γ it ρ <;> rfl
theorem evB_eq {c:E}:evB Γ c ρ=evb Γ c (view ρ):=rfl
theorem ykl {e:E}:evI Γ (.seq e) ρ=seqO ρ (ev Γ e (view ρ)):=by
 simp only [evI];cases ev Γ e (view ρ) <;> rfl
theorem ydo {i:Nat}:evI Γ (.seqV i) ρ=seqB ρ ρ[i]?:=by simp only [evI]
theorem seqB_l {l:List D}:seqB ρ (some (some (.sh (.lst l))))=some (l,ρ):=rfl
theorem seqB_t {l:List D}:seqB ρ (some (some (.sh (.tup l))))=some (l,ρ):=rfl
theorem seqB_o {l:List D}:seqB ρ (some (some (.ow l)))=some (l,frz ρ):=rfl
theorem zub {e:E}:evI Γ (.range1 e) ρ=rng1O ρ (evd Γ e (view ρ)):=by
 simp only [evI,evd];cases ev Γ e (view ρ) with
 | none=>rfl
 | some w=>simp only [Y5,Yt];cases w.d <;> rfl
theorem run_eq {b:Ss} {n:Nat} {ds:List D}:run Γ b n ds=outO (exs Γ b (ds.map (fun d=>some (.sh d))++List.replicate (n-ds.length) none)):=by
 unfold run;cases exs Γ b (ds.map (fun d=>some (.sh d))++List.replicate (n-ds.length) none) with
 | none=>rfl
 | some o=>cases o <;> rfl
end
section
variable {Γ:Nat->List D->Option W} {ρ:RhoS}
theorem bin2_s {f:D->D->Option W} {x y:D}:bin2 f (some x) (some y)=f x y:=rfl
theorem un1_s {f:D->Option W} {x:D}:un1 f (some x)=f x:=rfl
theorem andO_t {y:Option W}:andO (some true) y=y:=rfl
theorem andO_f {y:Option W}:andO (some false) y=some (.val (.bl false)):=rfl
theorem orO_t {y:Option W}:orO (some true) y=some (.val (.bl true)):=rfl
theorem orO_f {y:Option W}:orO (some false) y=y:=rfl
theorem iffO_t {α:Type} {x y:Option α}:iffO (some true) x y=x:=rfl
theorem iffO_f {α:Type} {x y:Option α}:iffO (some false) x y=y:=rfl
theorem appL_s {f:List D->Option W} {l:List D}:appL f (some l)=f l:=rfl
theorem yks {d:D} {l:List D}:consO (some d) (some l)=some (d::l):=rfl
theorem slO_s {x:D} {i j:Option Int}:slO (some x) (some i) (some j)=slD x i j:=rfl
theorem notW_s {k:Bool}:notW (some k)=some (.val (.bl (!k))):=rfl
theorem ybd {l:Ss}:yhg Γ (some (.nx ρ)) l=exs Γ l ρ:=rfl
theorem ybc {l:Ss} {w:W}:yhg Γ (some (.rt w)) l=some (.rt w):=rfl
theorem asgO_s {i:Nat} {w:W}:asgO ρ i (some w)=(setR (after w ρ) i w.b).map Out.nx:=rfl
theorem unpO_s {is:List Nat} {w:W}:unpO ρ is (some w)=(zbh (.tup is) w.d (after w ρ)).map Out.nx:=rfl
theorem parO_s {i j:Nat} {x y:D}:parO ρ i j (some x) (some y)=if lf x=true/\lf y=true/\i≠j/\i<ρ.length/\j<ρ.length then some (.nx ((ρ.set i (some (.sh x))).set j (some (.sh y)))) else none:=rfl
theorem retO_s {w:W}:retO (some w)=some (.rt w):=rfl
theorem yie {l:List D}:yif (some (some (.ow l)))=some (.rt (.new l)):=rfl
theorem yid {d:D}:yif (some (some (.sh d)))=some (.rt (.val d)):=rfl
theorem forO_s {bt:D->RhoS->Option RhoS} {fb:RhoS->Option Out} {l:List D}:forO bt fb (some (l,ρ))=forN bt fb l ρ:=rfl
theorem yiv {w:W}:outO (some (.rt w))=some w:=rfl
theorem yiw:outO (some (.nx ρ))=some (.val .non):=rfl
theorem yhx {l:List D}:seqO ρ (some (.new l))=some (l,after (.new l) ρ):=rfl
theorem yhw {l:List D}:seqO ρ (some (.val (.lst l)))=some (l,after (.val (.lst l)) ρ):=rfl
theorem yhv {l:List D}:seqO ρ (some (.val (.tup l)))=some (l,after (.val (.tup l)) ρ):=rfl
theorem ykm {l:List D}:enumO ρ (some (.lst l))=some (ydr l,frz ρ):=rfl
theorem yib {n:Int}:rng1O ρ (some (.int n))=if -(2^62)<=n/\n<2^62 then some (zbk 0 n.toNat,ρ) else none:=rfl
theorem yia {m n:Int}:rng2O ρ (some (.int m)) (some (.int n))=if -(2^62)<=m/\m<2^62 /\ -(2^62)<=n/\n<2^62 then some (zbk m (n-m).toNat,ρ) else none:=rfl
theorem varD_0 {o:Option D} {r:Rho}:varD (o::r) 0=o:=by cases o <;> rfl
theorem varD_s {o:Option D} {r:Rho} {i:Nat}:varD (o::r) (i+1)=varD r i:=rfl
theorem yal:view []=[]:=rfl
theorem zut {o:Option B} {r:RhoS}:view (o::r)=o.map B.d::view r:=rfl
theorem ylv {i:Int}:after (.val (.int i)) ρ=ρ:=rfl
theorem ylw {i:Bool}:after (.val (.bl i)) ρ=ρ:=rfl
theorem ylu:after (.val .non) ρ=ρ:=rfl
theorem Wd_v {d:D}:(W.val d).d=d:=rfl
theorem Wd_n {l:List D}:(W.new l).d=.lst l:=rfl
theorem Wb_v {d:D}:(W.val d).b=.sh d:=rfl
theorem Wb_n {l:List D}:(W.new l).b=.ow l:=rfl
theorem Bd_s {d:D}:(B.sh d).d=d:=rfl
theorem Bd_o {l:List D}:(B.ow l).d=.lst l:=rfl
theorem yko {k:Bool}:zdb (.bl k)=some k:=rfl
theorem dInt_s {k:Int}:dInt (.int k)=some k:=rfl
theorem zjx {o:Option B} {b:B}:setR (o::ρ) 0 b=some (some b::ρ):=rfl
theorem zjw {o:Option B} {i:Nat} {b:B}:setR (o::ρ) (i+1) b=(setR ρ i b).map (o :: ·):=by
 unfold setR;by_cases h:i<ρ.length
 ·rw [if_pos h,if_pos (by rw [Zk];omega)];rfl
 ·rw [if_neg h,if_neg (by rw [Zk];omega)];rfl
theorem op_add {a b:Int}:opW .add (.int a) (.int b)=some (.val (.int (a+b))):=rfl
theorem op_sub {a b:Int}:opW .sub (.int a) (.int b)=some (.val (.int (a-b))):=rfl
theorem op_mul {a b:Int}:opW .mul (.int a) (.int b)=if zap a b=true then some (.val (.int (a*b))) else none:=rfl
theorem op_fdiv {a b:Int}:opW .fdiv (.int a) (.int b)=if zdj b=true then some (.val (.int (a.fdiv b))) else none:=rfl
theorem op_mod {a b:Int}:opW .mod (.int a) (.int b)=if b=0 then none else some (.val (.int (a.fmod b))):=rfl
theorem op_pow {a b:Int}:opW .pow (.int a) (.int b)=if zlb a b=true then some (.val (.int (a^b.toNat))) else none:=rfl
end
theorem sl0:(0<=PySem.sizeLine)=True:=eq_true (by decide)
theorem sl1:(1<=PySem.sizeLine)=True:=eq_true (by decide)
theorem sl2:(2<=PySem.sizeLine)=True:=eq_true (by decide)
theorem sl3:(3<=PySem.sizeLine)=True:=eq_true (by decide)
theorem at1_0 {a:D}:L2.atI [a] 0=some a:=rfl
theorem at2_0 {a b:D}:L2.atI [a,b] 0=some a:=rfl
theorem at2_1 {a b:D}:L2.atI [a,b] 1=some b:=rfl
theorem at3_0 {a b c:D}:L2.atI [a,b,c] 0=some a:=rfl
theorem at3_1 {a b c:D}:L2.atI [a,b,c] 1=some b:=rfl
theorem at3_2 {a b c:D}:L2.atI [a,b,c] 2=some c:=rfl
theorem at4_0 {a b c d:D}:L2.atI [a,b,c,d] 0=some a:=rfl
theorem at4_1 {a b c d:D}:L2.atI [a,b,c,d] 1=some b:=rfl
theorem at4_2 {a b c d:D}:L2.atI [a,b,c,d] 2=some c:=rfl
theorem at4_3 {a b c d:D}:L2.atI [a,b,c,d] 3=some d:=rfl
theorem at5_0 {a b c d e:D}:L2.atI [a,b,c,d,e] 0=some a:=rfl
theorem at5_1 {a b c d e:D}:L2.atI [a,b,c,d,e] 1=some b:=rfl
theorem at5_2 {a b c d e:D}:L2.atI [a,b,c,d,e] 2=some c:=rfl
theorem at5_3 {a b c d e:D}:L2.atI [a,b,c,d,e] 3=some d:=rfl
theorem at5_4 {a b c d e:D}:L2.atI [a,b,c,d,e] 4=some e:=rfl
theorem at6_0 {a b c d e f:D}:L2.atI [a,b,c,d,e,f] 0=some a:=rfl
theorem at6_1 {a b c d e f:D}:L2.atI [a,b,c,d,e,f] 1=some b:=rfl
theorem at6_2 {a b c d e f:D}:L2.atI [a,b,c,d,e,f] 2=some c:=rfl
theorem at6_3 {a b c d e f:D}:L2.atI [a,b,c,d,e,f] 3=some d:=rfl
theorem at6_4 {a b c d e f:D}:L2.atI [a,b,c,d,e,f] 4=some e:=rfl
theorem at6_5 {a b c d e f:D}:L2.atI [a,b,c,d,e,f] 5=some f:=rfl
theorem zlv {a b:Int} (h:0<b):a.fmod b=a%b:=Qx _ (by omega)
theorem ydm {a b:Int} (h:0<b):a.fdiv b=a/b:=K5 _ (by omega)
theorem zer {b:Int} (h0:0<b) (h1:b<1000000000000000000000000000000000000000000000000000000000000000000000000000000000000000000000000000000000000000000000000000000000000000000000000000000):zdj b=true:=by
 unfold zdj;rw [Zq];refine⟨decide_eq_true (by omega),decide_eq_true ?_⟩
 have:(1000000000000000000000000000000000000000000000000000000000000000000000000000000000000000000000000000000000000000000000000000000000000000000000000000000:Nat)<=2^9000:=by decide +kernel
 omega
theorem zah {a b:Int} (h0 : -1000000000000000000000000000000000000000000000000000000000000000000000000000000000000000000000000000000000000000000000000000000000000000000000000000000<a) (h1:a<1000000000000000000000000000000000000000000000000000000000000000000000000000000000000000000000000000000000000000000000000000000000000000000000000000000) (h2 : -1000000000000000000000000000000000000000000000000000000000000000000000000000000000000000000000000000000000000000000000000000000000000000000000000000000<b) (h3:b<1000000000000000000000000000000000000000000000000000000000000000000000000000000000000000000000000000000000000000000000000000000000000000000000000000000):zap a b=true:=by
 unfold zap;rw [Zq];have:(1000000000000000000000000000000000000000000000000000000000000000000000000000000000000000000000000000000000000000000000000000000000000000000000000000000:Nat)<=2^16000:=by decide +kernel
 exact⟨decide_eq_true (by omega),decide_eq_true (by omega)⟩
theorem op_p6:opW .pow (.int 10) (.int 6)=some (.val (.int 1000000)):=by
 have h:zlb 10 6=true:=by decide +kernel
 have e:((10:Int)^Int.toNat 6)=1000000:=by decide +kernel
 rw [op_pow,if_pos h,e]
theorem op_p9:opW .pow (.int 10) (.int 9)=some (.val (.int 1000000000)):=by
 have h:zlb 10 9=true:=by decide +kernel
 have e:((10:Int)^Int.toNat 9)=1000000000:=by decide +kernel
 rw [op_pow,if_pos h,e]
theorem op_p18:opW .pow (.int 10) (.int 18)=some (.val (.int 1000000000000000000)):=by
 have h:zlb 10 18=true:=by decide +kernel
 have e:((10:Int)^Int.toNat 18)=1000000000000000000:=by decide +kernel
 rw [op_pow,if_pos h,e]
theorem op_p30:opW .pow (.int 10) (.int 30)=some (.val (.int 1000000000000000000000000000000)):=by
 have h:zlb 10 30=true:=by decide +kernel
 have e:((10:Int)^Int.toNat 30)=1000000000000000000000000000000:=by decide +kernel
 rw [op_pow,if_pos h,e]
theorem op_p64:opW .pow (.int 10) (.int 64)=some (.val (.int 10000000000000000000000000000000000000000000000000000000000000000)):=by
 have h:zlb 10 64=true:=by decide +kernel
 have e:((10:Int)^Int.toNat 64)=10000000000000000000000000000000000000000000000000000000000000000:=by decide +kernel
 rw [op_pow,if_pos h,e]
theorem cs0:((0:Nat):Int)=0:=rfl
theorem cs1:((1:Nat):Int)=1:=rfl
theorem cs2:((2:Nat):Int)=2:=rfl
theorem cs3:((3:Nat):Int)=3:=rfl
theorem cs4:((4:Nat):Int)=4:=rfl
theorem cs5:((5:Nat):Int)=5:=rfl
theorem cs6:((6:Nat):Int)=6:=rfl
theorem cs7:((7:Nat):Int)=7:=rfl
theorem cs8:((8:Nat):Int)=8:=rfl
theorem cs9:((9:Nat):Int)=9:=rfl
theorem cs10:((10:Nat):Int)=10:=rfl
theorem cs11:((11:Nat):Int)=11:=rfl
theorem cs12:((12:Nat):Int)=12:=rfl
theorem ixD_t {l:List D} {i:Int}:ixD (.tup l) (.int i)=L2.atI l i:=rfl
theorem ixD_l {l:List D} {i:Int}:ixD (.lst l) (.int i)=L2.atI l i:=rfl
theorem slD_l {l:List D} {i j:Option Int}:slD (.lst l) i j=some (.new (cutD l i j)):=rfl
theorem zfj {i:Nat} {d:D} {ρ:RhoS}:zbh (.name i) d ρ=setR ρ i (.sh d):=rfl
theorem zsr {is:List Nat} {ds:List D} {ρ:RhoS}:zbh (.tup is) (.tup ds) ρ=zdx is ds ρ:=rfl
def appO (ρ:RhoS) (i:Nat):Option (Option B)->Option W->Option Out
 | some (some (.ow l)),some (.val d)=>if lf d=true/\l.length<PySem.sizeLine then some (.nx (ρ.set i (some (.ow (l++[d]))))) else none
 | _,_=>none
def popO (ρ:RhoS) (i:Nat):Option (Option B)->Option Out
 | some (some (.ow l))=>if l=[] then none else some (.nx (ρ.set i (some (.ow l.dropLast))))
 | _=>none
def clrO (ρ:RhoS) (i:Nat):Option (Option B)->Option Out
 | some (some (.ow _))=>some (.nx (ρ.set i (some (.ow []))))
 | _=>none
def ztl (ρ:RhoS) (i:Nat):Option (Option B)->Option W->Option D->Option Out
 | some (some (.ow l)),some (.val d),some (.int j)=>if lf d=true then (L2.ixN l.length j).map fun n=>.nx (ρ.set i (some (.ow (l.set n d)))) else none
 | _,_,_=>none
section
variable {Γ:Nat->List D->Option W} {ρ:RhoS}
theorem ex_app {i:Nat} {e:E}:ex Γ (.app i e) ρ=appO ρ i ρ[i]? (ev Γ e (view ρ)):=by
 simp only [ex];cases ev Γ e (view ρ) with
 | none=>
  rw [U8];unfold appO;cases ρ[i]? with
  | none=>rfl
  | some o=>cases o with
   | none=>rfl
   | some b=>cases b <;> rfl
 | some w=>
  rw [Yt];unfold appO;cases ρ[i]? with
  | none=>rfl
  | some o=>cases o with
   | none=>rfl
   | some b=>cases b <;> cases w <;> rfl
theorem ex_pop {i:Nat}:ex Γ (.pop i) ρ=popO ρ i ρ[i]?:=by
 simp only [ex];unfold popO;cases ρ[i]? with
 | none=>rfl
 | some o=>cases o with
  | none=>rfl
  | some b=>cases b <;> rfl
theorem ykc {i:Nat} {k e:E}:ex Γ (.seti i k e) ρ=ztl ρ i ρ[i]? (ev Γ e (view ρ)) (evd Γ k (view ρ)):=by
 simp only [ex,evd];cases ev Γ e (view ρ) with
 | none=>
  rw [U8];unfold ztl;cases ρ[i]? with
  | none=>rfl
  | some o=>cases o with
   | none=>rfl
   | some b=>cases b <;> rfl
 | some w=>
  rw [Yt];cases ev Γ k (view ρ) with
  | none=>
   unfold ztl;cases ρ[i]? with
   | none=>rfl
   | some o=>cases o with
    | none=>rfl
    | some b=>cases b <;> cases w <;> rfl
  | some u=>
   simp only [Y5,Yt];cases u.d with
   | int j=>
    unfold ztl;cases ρ[i]? with
    | none=>rfl
    | some o=>cases o with
     | none=>rfl
     | some b=>cases b <;> cases w <;> rfl
   | _=>
    unfold ztl;cases ρ[i]? with
    | none=>rfl
    | some o=>cases o with
     | none=>rfl
     | some b=>cases b <;> cases w <;> rfl
theorem appO_s {i:Nat} {l:List D} {d:D}:appO ρ i (some (some (.ow l))) (some (.val d))=if lf d=true/\l.length<PySem.sizeLine then some (.nx (ρ.set i (some (.ow (l++[d]))))) else none:=rfl
theorem popO_s {i:Nat} {l:List D}:popO ρ i (some (some (.ow l)))=if l=[] then none else some (.nx (ρ.set i (some (.ow l.dropLast)))):=rfl
theorem clrO_s {i:Nat} {l:List D}:clrO ρ i (some (some (.ow l)))=some (.nx (ρ.set i (some (.ow [])))):=rfl
theorem yhu {i:Nat} {l:List D} {d:D} {j:Int}:ztl ρ i (some (some (.ow l))) (some (.val d)) (some (.int j))=if lf d=true then (L2.ixN l.length j).map fun n=>.nx (ρ.set i (some (.ow (l.set n d)))) else none:=rfl
end
section
variable {Γ:Nat->List D->Option W} {ρ:Rho}
theorem ev_fm {f:Fm} {l:Es}:ev Γ (.fm f l) ρ=appL (fmW f) (evs Γ l ρ):=by
 simp only [ev];cases (evs Γ l ρ) <;> rfl
def yho (Γ:Nat->List D->Option W) (elt:E) (t:Tg) (nt:Nat) (fr:List Nat) (c:EO) (ρ:Rho) (d:D):Option (Option D):=
 (zca t d (blkR nt fr ρ)).bind fun ρd=>(evc Γ c ρd).bind fun k=>if k=true then ((ev Γ elt ρd).map W.d).map some else some none
theorem yki {elt:E} {t:Tg} {it:It'} {nt:Nat} {fr:List Nat} {c:EO}:ev Γ (.comp elt t it nt fr c) ρ=(evW Γ it ρ).bind fun items=>if items.length<=PySem.sizeLine/\tgOk nt t=true then (zdk (yho Γ elt t nt fr c ρ) items).map W.new else none:=by
 simp only [ev];rfl
theorem ykk {e:E}:evW Γ (.seq e) ρ=(evd Γ e ρ).bind seqD:=by simp only [evW,evd]
theorem ydn {i:Nat}:evW Γ (.seqV i) ρ=(varD ρ i).bind seqD:=by simp only [evW]
theorem ykh:evc Γ .non ρ=some true:=by simp only [evc]
theorem zof {α:Type} {f:D->Option (Option D)} {g:α->D} {h:α->D}:∀ {l:List α},(∀ x∈l,f (g x)=some (some (h x)))->zdk f (l.map g)=some (l.map h)
 | [],_=>rfl
 | x::l,hl=>by
  rw [Zz,Zz];unfold zdk;rw [hl x (.head _)];simp only
  rw [zof fun y hy=>hl y (.tail _ hy)];rfl
theorem zes {α:Type} {elt:E} {t:Tg} {it:It'} {nt:Nat} {fr:List Nat} {c:EO} {l:List α} {g h:α->D} (hI:evW Γ it ρ=some (l.map g)) (hz:l.length<=PySem.sizeLine) (ht:tgOk nt t=true) (hs:∀ x∈l,yho Γ elt t nt fr c ρ (g x)=some (some (h x))) :
  ev Γ (.comp elt t it nt fr c) ρ=some (.new (l.map h)):=by
 rw [yki,hI,Yt,if_pos ⟨by rw [Zd];exact hz,ht⟩,zof hs];rfl
end
theorem zzh {i:Nat} {d:D} {ρ:Rho}:zca (.name i) d ρ=setE ρ i d:=rfl
theorem zzg {is:List Nat} {ds:List D} {ρ:Rho}:zca (.tup is) (.tup ds) ρ=zcu is ds ρ:=rfl
theorem setE_0 {o:Option D} {d:D} {ρ:Rho}:setE (o::ρ) 0 d=some (some d::ρ):=rfl
theorem setE_s {o:Option D} {i:Nat} {d:D} {ρ:Rho}:setE (o::ρ) (i+1) d=(setE ρ i d).map (o :: ·):=by
 unfold setE;by_cases h:i<ρ.length
 ·rw [if_pos h,if_pos (by rw [Zk];omega)];rfl
 ·rw [if_neg h,if_neg (by rw [Zk];omega)];rfl
end DL
namespace DL
section
theorem Bx {α β:Type} {o o':Option α} {f f':α->Option β} {y:β} (h1:∀ x,o=some x->o'=some x) (h2:∀ x y,f x=some y->f' x=some y) (h:o.bind f=some y):o'.bind f'=some y:=by
 refine xa (Za.mp h) fun x e1 e2=>?_;rw [h1 x e1,Yt];exact h2 x y e2
theorem B7 {α β:Type} {o o':Option α} {f:α->β} {y:β} (h1:∀ x,o=some x->o'=some x) (h:o.map f=some y):o'.map f=some y:=by
 refine xa (Zb.mp h) fun x e1 e2=>?_;rw [h1 x e1,Y5,e2]
theorem zkd {α:Type} {c:Prop} [Decidable c] {a b a' b':Option α} {y:α} (h1:a=some y->a'=some y) (h2:b=some y->b'=some y) (h:(if c then a else b)=some y):(if c then a' else b')=some y:=by
 by_cases q:c
 ·rw [if_pos q] at h |-;exact h1 h
 ·rw [if_neg q] at h |-;exact h2 h
theorem zly {f f':D->Option (Option D)} (h:∀ d y,f d=some y->f' d=some y):∀ {l:List D} {r:List D},zdk f l=some r->zdk f' l=some r
 | [],_,q=>q
 | d::l,r,q=>by
  unfold zdk at q |-;cases e:f d with
  | none=>rw [e] at q;cases q
  | some o=>
   rw [e] at q;rw [h d o e];cases o with
   | none=>exact zly h q
   | some x=>exact B7 (fun r=>zly h) q
variable {Γ Γ':Nat->List D->Option W}
mutual
theorem zai (h:∀ f ds w,Γ f ds=some w->Γ' f ds=some w):∀ (e:E) (ρ:Rho) (w:W),ev Γ e ρ=some w->ev Γ' e ρ=some w
 | .var i,ρ,w,q=>by simp only [ev] at q |-;exact q
 | .int i,ρ,w,q=>by simp only [ev] at q |-;exact q
 | .bl b,ρ,w,q=>by simp only [ev] at q |-;exact q
 | .non,ρ,w,q=>by simp only [ev] at q |-;exact q
 | .bin o a b,ρ,w,q=>by
  simp only [ev] at q |-;exact Bx (fun x=>B7 (zai h a ρ)) (fun x y=>Bx (fun x=>B7 (zai h b ρ)) fun _ _ z=>z) q
 | .neg a,ρ,w,q=>by
  simp only [ev] at q |-;exact B7 (fun x=>Bx (fun x=>B7 (zai h a ρ)) fun _ _ z=>z) q
 | .cmp c a b,ρ,w,q=>by
  simp only [ev] at q |-;exact Bx (fun x=>B7 (zai h a ρ)) (fun x y=>Bx (fun x=>B7 (zai h b ρ)) fun _ _ z=>z) q
 | .and a b,ρ,w,q=>by
  simp only [ev] at q |-;exact Bx (fun x=>Bx (fun x=>B7 (zai h a ρ)) fun _ _ z=>z) (fun x y=>zkd (zai h b ρ y) fun z=>z) q
 | .or a b,ρ,w,q=>by
  simp only [ev] at q |-;exact Bx (fun x=>Bx (fun x=>B7 (zai h a ρ)) fun _ _ z=>z) (fun x y=>zkd (fun z=>z) (zai h b ρ y)) q
 | .not a,ρ,w,q=>by
  simp only [ev] at q |-;exact B7 (fun x=>Bx (fun x=>B7 (zai h a ρ)) fun _ _ z=>z) q
 | .ife c a b,ρ,w,q=>by
  simp only [ev] at q |-;exact Bx (fun x=>Bx (fun x=>B7 (zai h c ρ)) fun _ _ z=>z) (fun x y=>zkd (zai h a ρ y) (zai h b ρ y)) q
 | .tup l,ρ,w,q=>by
  simp only [ev] at q |-;exact Bx (evs_le h l ρ) (fun _ _ z=>z) q
 | .lst l,ρ,w,q=>by
  simp only [ev] at q |-;exact Bx (evs_le h l ρ) (fun _ _ z=>z) q
 | .ix a b,ρ,w,q=>by
  simp only [ev] at q |-;exact Bx (fun x=>B7 (zai h a ρ)) (fun x y=>Bx (fun x=>B7 (zai h b ρ)) fun _ _ z=>z) q
 | .sl a lo hi,ρ,w,q=>by
  simp only [ev] at q |-;exact Bx (fun x=>B7 (zai h a ρ)) (fun x y=>Bx (evo_le h lo ρ) fun _ _=>Bx (evo_le h hi ρ) fun _ _ z=>z) q
 | .call f l,ρ,w,q=>by
  simp only [ev] at q |-;exact Bx (evs_le h l ρ) (fun ds y=>h f ds y) q
 | .bi f l,ρ,w,q=>by
  simp only [ev] at q |-;exact Bx (evs_le h l ρ) (fun _ _ z=>z) q
 | .isi a t,ρ,w,q=>by
  simp only [ev] at q |-;exact Bx (fun x=>B7 (zai h a ρ)) (fun _ _ z=>z) q
 | .isx a ys,ρ,w,q=>by
  simp only [ev] at q |-;exact Bx (fun x=>B7 (zai h a ρ)) (fun _ _ z=>z) q
 | .fm f l,ρ,w,q=>by
  simp only [ev] at q |-;exact Bx (evs_le h l ρ) (fun _ _ z=>z) q
 | .lcp a,ρ,w,q=>by
  simp only [ev] at q |-;exact Bx (fun x=>B7 (zai h a ρ)) (fun _ _ z=>z) q
 | .comp elt t it nt fr c,ρ,w,q=>by
  simp only [ev] at q |-;refine Bx (evW_le h it ρ) (fun items y=>zkd (B7 fun r=>zly fun d y=>?_) fun z=>z) q;exact Bx (fun _ z=>z) (fun ρd y=>Bx (evc_le h c ρd) fun k y=>zkd (B7 fun x=>B7 (zai h elt ρd)) fun z=>z)
theorem evs_le (h:∀ f ds w,Γ f ds=some w->Γ' f ds=some w):∀ (l:Es) (ρ:Rho) (w:List D),evs Γ l ρ=some w->evs Γ' l ρ=some w
 | .nil,ρ,w,q=>by simp only [evs] at q |-;exact q
 | .cons e l,ρ,w,q=>by
  simp only [evs] at q |-;exact Bx (fun x=>B7 (zai h e ρ)) (fun x y=>B7 (evs_le h l ρ)) q
theorem evo_le (h:∀ f ds w,Γ f ds=some w->Γ' f ds=some w):∀ (l:EO) (ρ:Rho) (w:Option Int),evo Γ l ρ=some w->evo Γ' l ρ=some w
 | .non,ρ,w,q=>by simp only [evo] at q |-;exact q
 | .som e,ρ,w,q=>by
  simp only [evo] at q |-;exact B7 (fun x=>Bx (fun x=>B7 (zai h e ρ)) fun _ _ z=>z) q
theorem evc_le (h:∀ f ds w,Γ f ds=some w->Γ' f ds=some w):∀ (l:EO) (ρ:Rho) (w:Bool),evc Γ l ρ=some w->evc Γ' l ρ=some w
 | .non,ρ,w,q=>by simp only [evc] at q |-;exact q
 | .som e,ρ,w,q=>by
  simp only [evc] at q |-;exact Bx (fun x=>B7 (zai h e ρ)) (fun _ _ z=>z) q
theorem evW_le (h:∀ f ds w,Γ f ds=some w->Γ' f ds=some w):∀ (l:It') (ρ:Rho) (w:List D),evW Γ l ρ=some w->evW Γ' l ρ=some w
 | .seq e,ρ,w,q=>by
  simp only [evW] at q |-;exact Bx (fun x=>B7 (zai h e ρ)) (fun _ _ z=>z) q
 | .seqV i,ρ,w,q=>by simp only [evW] at q |-;exact q
 | .range1 a,ρ,w,q=>by
  simp only [evW] at q |-;exact Bx (fun x=>Bx (fun x=>B7 (zai h a ρ)) fun _ _ z=>z) (fun _ _ z=>z) q
 | .range2 a b,ρ,w,q=>by
  simp only [evW] at q |-;exact Bx (fun x=>Bx (fun x=>B7 (zai h a ρ)) fun _ _ z=>z) (fun _ _=>Bx (fun x=>Bx (fun x=>B7 (zai h b ρ)) fun _ _ z=>z) fun _ _ z=>z) q
 | .enum e,ρ,w,q=>by
  simp only [evW] at q |-;exact B7 (fun x=>Bx (fun x=>B7 (zai h e ρ)) fun _ _ z=>z) q
end
theorem evI_le (h:∀ f ds w,Γ f ds=some w->Γ' f ds=some w):∀ (l:It') (ρ:RhoS) (w:List D×RhoS),evI Γ l ρ=some w->evI Γ' l ρ=some w
 | .seq e,ρ,w,q=>by
  simp only [evI] at q |-;exact Bx (zai h e (view ρ)) (fun _ _ z=>z) q
 | .seqV i,ρ,w,q=>by simp only [evI] at q |-;exact q
 | .range1 a,ρ,w,q=>by
  simp only [evI] at q |-;exact Bx (fun x=>Bx (fun x=>B7 (zai h a (view ρ))) fun _ _ z=>z) (fun _ _ z=>z) q
 | .range2 a b,ρ,w,q=>by
  simp only [evI] at q |-;exact Bx (fun x=>Bx (fun x=>B7 (zai h a (view ρ))) fun _ _ z=>z) (fun _ _=>Bx (fun x=>Bx (fun x=>B7 (zai h b (view ρ))) fun _ _ z=>z) fun _ _ z=>z) q
 | .enum e,ρ,w,q=>by
  simp only [evI] at q |-;exact Bx (zai h e (view ρ)) (fun _ _ z=>z) q
theorem zmm {c c':RhoS->Option Bool} {b b':RhoS->Option Out} (hc:∀ ρ k,c ρ=some k->c' ρ=some k) (hb:∀ ρ o,b ρ=some o->b' ρ=some o):∀ (n:Nat) (ρ:RhoS) (o:Out),zag c b n ρ=some o->zag c' b' n ρ=some o
 | 0,_,_,q=>by cases q
 | n+1,ρ,o,q=>by
  unfold zag at q |-;cases e:c ρ with
  | none=>rw [e] at q;cases q
  | some k=>
   simp only [e] at q;simp only [hc ρ k e];cases k with
   | false=>exact q
   | true=>
    cases e2:b ρ with
    | none=>simp only [e2] at q;cases q
    | some o2=>
     simp only [e2] at q;simp only [hb ρ o2 e2];cases o2 with
     | rt w=>exact q
     | nx ρ'=>exact zmm hc hb n ρ' o q
theorem zyj {bt:D->RhoS->Option RhoS} {b b':RhoS->Option Out} (hb:∀ ρ o,b ρ=some o->b' ρ=some o):∀ (l:List D) (ρ:RhoS) (o:Out),forN bt b l ρ=some o->forN bt b' l ρ=some o
 | [],_,_,q=>q
 | d::l,ρ,o,q=>by
  unfold forN at q |-;cases e:bt d ρ with
  | none=>rw [e] at q;cases q
  | some ρ1=>
   simp only [e] at q;simp only
   cases e2:b ρ1 with
   | none=>simp only [e2] at q;cases q
   | some o2=>
    simp only [e2] at q;simp only [hb ρ1 o2 e2];cases o2 with
    | rt w=>exact q
    | nx ρ'=>exact zyj hb l ρ' o q
mutual
def zwv:S->Bool
 | .tryC _ _ _ _ _=>false
 | .iff _ a b=>noTrys a && noTrys b
 | .whl _ b=>noTrys b
 | .frr _ _ b=>noTrys b
 | _=>true
def noTrys:Ss->Bool
 | .nil=>true
 | .cons s l=>zwv s && noTrys l
end
mutual
theorem ex_le (h:∀ f ds w,Γ f ds=some w->Γ' f ds=some w):∀ (s:S) (ρ:RhoS) (o:Out),zwv s=true->ex Γ s ρ=some o->ex Γ' s ρ=some o
 | .asg i e,ρ,o,_,q=>by
  simp only [ex] at q |-;exact Bx (zai h e _) (fun _ _ z=>z) q
 | .unp is e,ρ,o,_,q=>by
  simp only [ex] at q |-;exact Bx (zai h e _) (fun _ _ z=>z) q
 | .par i j a b,ρ,o,_,q=>by
  simp only [ex] at q |-;exact Bx (fun x=>B7 (zai h a _)) (fun _ _=>Bx (fun x=>B7 (zai h b _)) fun _ _ z=>z) q
 | .ret e,ρ,o,_,q=>by
  simp only [ex] at q |-;exact B7 (zai h e _) q
 | .retV i,ρ,o,_,q=>by simp only [ex] at q |-;exact q
 | .iff c a b,ρ,o,n,q=>by
  simp only [zwv,Zq] at n;simp only [ex,evB] at q |-;exact Bx (fun x=>Bx (fun x=>B7 (zai h c _)) fun _ _ z=>z) (fun _ y=>zkd (exs_le h a ρ y n.1) (exs_le h b ρ y n.2)) q
 | .whl c b,ρ,o,n,q=>by
  simp only [zwv] at n;simp only [ex] at q |-;refine xb (zjt q) fun m hm=>?_;refine zdl (zmm (fun ρ k z=>?_) (fun ρ o z=>exs_le h b ρ o n z) m ρ o hm);unfold evB at z |-;exact Bx (fun x=>B7 (zai h c _)) (fun _ _ z=>z) z
 | .frr t it b,ρ,o,n,q=>by
  simp only [zwv] at n;simp only [ex] at q |-;exact Bx (evI_le h it ρ) (fun p y=>zyj (fun ρ o z=>exs_le h b ρ o n z) _ _ _) q
 | .tryC f g l i j,ρ,o,n,q=>by cases n
 | .app i e,ρ,o,_,q=>by
  simp only [ex] at q |-;exact Bx (zai h e _) (fun _ _ z=>z) q
 | .pop i,ρ,o,_,q=>by simp only [ex] at q |-;exact q
 | .clr i,ρ,o,_,q=>by simp only [ex] at q |-;exact q
 | .seti i k e,ρ,o,_,q=>by
  simp only [ex] at q |-;exact Bx (zai h e _) (fun _ _=>Bx (fun x=>Bx (fun x=>B7 (zai h k _)) fun _ _ z=>z) fun _ _ z=>z) q
 | .never,ρ,o,_,q=>by simp only [ex] at q;cases q
theorem exs_le (h:∀ f ds w,Γ f ds=some w->Γ' f ds=some w):∀ (l:Ss) (ρ:RhoS) (o:Out),noTrys l=true->exs Γ l ρ=some o->exs Γ' l ρ=some o
 | .nil,ρ,o,_,q=>by simp only [exs] at q |-;exact q
 | .cons s l,ρ,o,n,q=>by
  simp only [noTrys,Zq] at n;simp only [exs] at q |-;refine Bx (fun o z=>ex_le h s ρ o n.1 z) (fun o2 y z=>?_) q;cases o2 with
  | nx ρ'=>exact exs_le h l ρ' y n.2 z
  | rt w=>exact z
end
def tab:List (Nat×(List D->Option W))->Nat->List D->Option W
 | [],_=>fun _=>none
 | (k,m)::t,n=>if n=k then m else tab t n
theorem yfc:∀ (T:List (Nat×(List D->Option W))),(∀ p∈T,Γ p.1=p.2)->∀ f ds w,tab T f ds=some w->Γ f ds=some w
 | [],_,_,_,_,q=>by simp only [tab] at q;cases q
 | (k,m)::t,h,f,ds,w,q=>by
  unfold tab at q;by_cases e:f=k
  ·rw [if_pos e] at q;subst e;rw [h (f,m) (.head _)];exact q
  ·rw [if_neg e] at q;exact yfc t (fun p hp=>h p (.tail _ hp)) f ds w q
theorem zby {b:Ss} {n:Nat} (T:List (Nat×(List D->Option W))) (hT:∀ p∈T,Γ p.1=p.2) (hb:noTrys b=true) (ds:List D) (w:W) (h:run (tab T) b n ds=some w):run Γ b n ds=some w:=by
 unfold run at h |-;exact Bx (fun o=>exs_le (yfc T hT) b _ o hb) (fun _ _ z=>z) h
end
theorem cm_lt {a b:Int}:cmpD .lt (.int a) (.int b)=some (decide (a<b)):=rfl
theorem cm_le {a b:Int}:cmpD .le (.int a) (.int b)=some (decide (a<=b)):=rfl
theorem cm_gt {a b:Int}:cmpD .gt (.int a) (.int b)=some (decide (b<a)):=rfl
theorem cm_ge {a b:Int}:cmpD .ge (.int a) (.int b)=some (decide (b<=a)):=rfl
theorem cm_eq {a b:Int}:cmpD .eq (.int a) (.int b)=some (decide (a=b)):=rfl
theorem cm_ne {a b:Int}:cmpD .ne (.int a) (.int b)=some (!decide (a=b)):=rfl
theorem cm_eqB {a b:Bool}:cmpD .eq (.bl a) (.bl b)=some (a == b):=rfl
theorem cm_neB {a b:Bool}:cmpD .ne (.bl a) (.bl b)=some (!(a == b)):=rfl
theorem cm_eqT {a b:List D}:cmpD .eq (.tup a) (.tup b)=if (dOkL 49 a && dOkL 49 b)=true then some (eqL a b) else none:=rfl
theorem cm_eqL {a b:List D}:cmpD .eq (.lst a) (.lst b)=if (dOkL 49 a && dOkL 49 b)=true then some (eqL a b) else none:=rfl
theorem cm_in {x:D} {l:List D}:cmpD .isin x (.lst l)=if (dOk 50 x && dOkL 49 l)=true then some (l.any fun y=>eqD y x) else none:=rfl
theorem cm_isN {a:D}:cmpD .isN a .non=some (zoa a):=rfl
theorem yla {a:D}:cmpD .notN a .non=some (!zoa a):=rfl
end DL
namespace Sf
abbrev gc (a b:Int):Int:=((Int.gcd a b:Nat):Int)
theorem gc_nn (a b:Int):0<=gc a b:=Kg _
theorem zir {a b:Int} (h:b≠0):0<gc a b:=Int.natCast_pos.mpr (Int.gcd_pos_of_ne_zero_right a h)
theorem zpq {g s:Int}:gc s (g%s)=gc g s:=by
 have e:g=g%s+s*(g/s):=by have:=Int.emod_add_mul_ediv g s;omega
 show ((Int.gcd s (g%s):Nat):Int)=((Int.gcd g s:Nat):Int);have h:Int.gcd s g=Int.gcd s (g%s):=by
  conv=>lhs;rw [e]
  rw [Int.gcd_add_mul_left_right]
 rw [Int.gcd_comm g s,h]
theorem zlq {g:Int} (h:0<=g):gc g 0=g:=by
 show ((Int.gcd g 0:Nat):Int)=g;rw [Int.gcd_zero];omega
theorem yge (a b:Int):gc (if a<0 then -a else a) (if b<0 then -b else b)=gc a b:=by
 show ((Int.gcd _ _:Nat):Int)=_;split <;> split <;> simp only [Int.neg_gcd,Int.gcd_neg]
theorem zuf {p q:Int} (h:∀ c,c∣p->c∣q->c∣1):Int.gcd p q=1:=Qc.mpr h
theorem zfh {k m n:Int} (h:Int.gcd k m=1) (d:k∣m*n):k∣n:=by
 have e:=Q0 (n:=k) (m:=m) (k:=n) h;have h1:Int.gcd k (m*n)=k.natAbs:=Int.gcd_eq_natAbs_left d;rw [h1] at e;exact Int.gcd_eq_natAbs_left_iff_dvd.mp e.symm
theorem zat {a b:Int} (h:a∣b) (hb:b≠0):a.natAbs<=b.natAbs:=
 Nat.le_of_dvd (by omega) (Int.natAbs_dvd_natAbs.mpr h)
theorem zls {a b:Int} (h:0<gc a b):∃ x y:Int,a=gc a b*x/\b=gc a b*y/\Int.gcd x y=1:=by
 refine xb (Kt a b) fun x hx=>?_;refine xb (Qk a b) fun y hy=>?_;refine⟨x,y,hx,hy,?_⟩
 have h2:Int.gcd a b=(gc a b).natAbs*Int.gcd x y:=by
  have e:=Int.gcd_mul_left (gc a b) x y;have e1:gc a b*x=a:=hx.symm;have e2:gc a b*y=b:=hy.symm;rw [e1,e2] at e;exact e
 have h3:(gc a b).natAbs=Int.gcd a b:=Yy _;rw [h3] at h2;have h4:0<Int.gcd a b:=Int.natCast_pos.mp h;exact (Nat.eq_of_mul_eq_mul_left h4 (by rw [Nat.mul_one];exact h2)).symm
structure Fra (p q:Int):Prop where
 pos:0<q
 co:Int.gcd p q=1
theorem Fra.cross_dvd {p q N B:Int} (f:Fra p q) (h:p*B=N*q):p∣N/\q∣B:=by
 constructor
 ·refine zfh f.co ⟨B,?_⟩;rw [h,Qv]
 ·refine zfh (k:=q) (m:=p) (by rw [Int.gcd_comm];exact f.co) ⟨N,?_⟩;rw [h,Qv]
theorem Fra.cross_le {p q N B:Int} (f:Fra p q) (hB:B≠0) (h:p*B=N*q):p.natAbs<=N.natAbs/\q.natAbs<=B.natAbs:=by
 refine xg (f.cross_dvd h) fun h1 h2=>?_;refine⟨?_,zat h2 hB⟩
 by_cases hN:N=0
 ·subst hN;rw [Uh] at h;rcases Ui.mp h with e | e
  ·rw [e];exact Zg _
  ·exact absurd e hB
 ·exact zat h1 hN
theorem Fra.uniq {p q r s:Int} (f:Fra p q) (g:Fra r s) (h:p*s=r*q):p=r/\q=s:=by
 have h1:=(f.cross_dvd h).2;have h2:=(g.cross_dvd h.symm).2;have e:q=s:=Int.dvd_antisymm (Ww f.pos) (Ww g.pos) h1 h2;subst e;exact⟨K6 (by have:=f.pos;omega) h,rfl⟩
def by_ (t b:Int):Int:=if b<0 then -(gc t b) else gc t b
def low1 (t b:Int):Int:=t.fdiv (by_ t b)
def low2 (t b:Int):Int:=b.fdiv (by_ t b)
theorem by_ne {t b:Int} (h:b≠0):by_ t b≠0:=by
 have:=zir (a:=t) h
 unfold by_;split <;> omega
theorem znx {t b:Int} (h:b≠0):t=by_ t b*low1 t b/\b=by_ t b*low2 t b/\Fra (low1 t b) (low2 t b):=by
 have hg:=zir (a:=t) h;refine xc (zls hg) fun x y hx hy hc=>?_;have hn:=by_ne (t:=t) h;have key:∃ z:Int,(z=1\/z = -1)/\by_ t b=gc t b*z/\0<y*z:=by
  by_cases hb:b<0
  ·refine⟨-1,.inr rfl,?_,?_⟩
   ·unfold by_;rw [if_pos hb];omega
   ·have:y<0:=by
     rw [hy] at hb;by_cases hh:y<0
     ·exact hh
     ·exact absurd hb (Uo.mpr (Q7 (Ww hg) (Uo.mp hh)))
    omega
  ·refine⟨1,.inl rfl,?_,?_⟩
   ·unfold by_;rw [if_neg hb];omega
   ·have:0<y:=by
     by_cases hh:0<y
     ·exact hh
     ·have:=W6 (Ww hg) (Uo.mp hh)
      rw [<- hy] at this;omega
    omega
 refine xh key fun z hz hbz hyz=>?_;clear key
 have zz:z*z=1:=by rcases hz with e | e <;> subst e <;> decide
 have e1:t=by_ t b*(x*z):=by
  rw [hbz];conv=>lhs;rw [hx]
  grind
 have e2:b=by_ t b*(y*z):=by
  rw [hbz];conv=>lhs;rw [hy]
  grind
 have l1:low1 t b=x*z:=by
  unfold low1;conv=>lhs;arg 1;rw [e1]
  exact Yi _ hn
 have l2:low2 t b=y*z:=by
  unfold low2;conv=>lhs;arg 1;rw [e2]
  exact Yi _ hn
 rw [l1,l2];refine⟨e1,e2,hyz,?_⟩
 rcases hz with e | e <;> subst e
 ·rw [Vv,Vv];exact hc
 ·have e3:x * -1 = -x:=by omega
  have e4:y * -1 = -y:=by omega
  rw [e3,e4,Int.neg_gcd,Int.gcd_neg];exact hc
theorem zxn {t b:Int} (h:b≠0):Fra (low1 t b) (low2 t b):=(znx h).2.2
theorem zxo {t b:Int} (h:b≠0):low1 t b*b=t*low2 t b:=by
 refine xi (znx (t:=t) h) fun e1 e2 _=>?_;generalize by_ t b=g at e1 e2;generalize low1 t b=x at e1 e2 |-;generalize low2 t b=y at e1 e2 |-;subst e1;subst e2;grind
def addT (a b c d:Int):Int:=a*(d.fdiv (gc b d))+c*(b.fdiv (gc b d))
def add1 (a b c d:Int):Int:=(addT a b c d).fdiv (gc (addT a b c d) (gc b d))
def add2 (a b c d:Int):Int:=b.fdiv (gc b d)*d.fdiv (gc (addT a b c d) (gc b d))
theorem add_ok {a b c d:Int} (f:Fra a b) (g:Fra c d):Fra (add1 a b c d) (add2 a b c d)/\add1 a b c d*(b*d)=(a*d+c*b)*add2 a b c d:=by
 have hb:=f.pos;have hd:=g.pos;have hs:0<gc b d:=zir (by omega);refine xc (zls hs) fun b' d' eb ed co=>?_;have hr:0<gc (addT a b c d) (gc b d):=zir (by omega);refine xc (zls hr) fun t' s' et es co2=>?_;have hne:gc b d≠0:=by omega
 have hre:gc (addT a b c d) (gc b d)≠0:=by omega
 have q1:b.fdiv (gc b d)=b':=by
  conv=>lhs;arg 1;rw [eb]
  exact Yi _ hne
 have q2:d.fdiv (gc b d)=d':=by
  conv=>lhs;arg 1;rw [ed]
  exact Yi _ hne
 have hT:addT a b c d=a*d'+c*b':=by unfold addT;rw [q1,q2]
 have q3:add1 a b c d=t':=by
  unfold add1;conv=>lhs;arg 1;rw [et]
  exact Yi _ hre
 have ed2:d=gc (addT a b c d) (gc b d)*(s'*d'):=by
  conv=>lhs;rw [ed]
  rw [<- U3];conv=>lhs;arg 1;rw [es]
 have q4:d.fdiv (gc (addT a b c d) (gc b d))=s'*d':=by
  conv=>lhs;arg 1;rw [ed2]
  exact Yi _ hre
 have q5:add2 a b c d=b'*(s'*d'):=by unfold add2;rw [q1,q4]
 rw [q3,q5];generalize gc (addT a b c d) (gc b d)=r at *;generalize gc b d=s at *;rw [hT] at et;have pb:0<b':=by
  by_cases hh:0<b'
  ·exact hh
  ·have:=W6 (Ww hs) (Uo.mp hh);omega
 have pd:0<d':=by
  by_cases hh:0<d'
  ·exact hh
  ·have:=W6 (Ww hs) (Uo.mp hh);omega
 have ps:0<s':=by
  by_cases hh:0<s'
  ·exact hh
  ·have:=W6 (Ww hr) (Uo.mp hh);omega
 have ca:Int.gcd a b'=1:=zuf fun k h1 h2=>Qc.mp f.co k h1 (by rw [eb];exact Q9 h2)
 have cc:Int.gcd c d'=1:=zuf fun k h1 h2=>Qc.mp g.co k h1 (by rw [ed];exact Q9 h2)
 have dt:t'∣a*d'+c*b':=⟨r,by rw [et,Qv]⟩;have ctb:Int.gcd t' b'=1:=zuf fun k h1 h2=>by
  have k1:k∣a*d':=(Int.dvd_add_left (Q9 h2)).mp (Qn h1 dt);have kd:Int.gcd k d'=1:=zuf fun j j1 j2=>Qc.mp co j (Qn j1 h2) j2
  have k2:k∣a:=zfh kd (by rw [Qv];exact k1);exact Qc.mp ca k k2 h2
 have ctd:Int.gcd t' d'=1:=zuf fun k h1 h2=>by
  have k1:k∣c*b':=(Int.dvd_add_right (Q9 h2)).mp (Qn h1 dt);have kd:Int.gcd k b'=1:=zuf fun j j1 j2=>Qc.mp co j j2 (Qn j1 h2)
  have k2:k∣c:=zfh kd (by rw [Qv];exact k1);exact Qc.mp cc k k2 h2
 refine⟨⟨Uw pb (Uw ps pd),?_⟩,?_⟩
 ·rw [Q0 ctb,Q0 co2];exact ctd
 ·subst eb;subst ed;subst es;have:a*(r*s'*d')+c*(r*s'*b')=r*s'*(r*t'):=by rw [<- et];grind
  rw [this];grind
end Sf
namespace Sf
theorem zdg (x:Rat):Fra x.num (x.den:Int):=⟨by have:=x.den_nz;omega,by
 have:=x.reduced
 show Nat.gcd x.num.natAbs ((x.den:Int)).natAbs=1;exact this⟩
theorem rat_of {p q:Int} (f:Fra p q):(Rat.divInt p q).num=p/\((Rat.divInt p q).den:Int)=q:=by
 have hq:=f.pos;refine (zdg (Rat.divInt p q)).uniq f ?_;have e:Rat.divInt (Rat.divInt p q).num ((Rat.divInt p q).den:Int)=Rat.divInt p q:=Yx _;exact (V4 (by have:=(Rat.divInt p q).den_nz;omega) (by omega)).mp e
theorem zqz {x:Rat} {p q:Int} (hq:q≠0):x=Rat.divInt p q↔x.num*q=p*(x.den:Int):=by
 conv=>lhs;lhs;rw [<- Yx x]
 exact V4 (by have:=x.den_nz;omega) hq
theorem yjm {t b:Int} (h:b≠0):(Rat.divInt t b).num=low1 t b/\((Rat.divInt t b).den:Int)=low2 t b:=
 (zdg _).uniq (zxn h) (by
  have e:=(zqz (x:=Rat.divInt t b) h).mp rfl;have c:=zxo (t:=t) h;have f:=(zxn (t:=t) h).pos;apply K6 h
  grind)
theorem ylx (x y:Rat):(x+y).num=add1 x.num x.den y.num y.den/\((x+y).den:Int)=add2 x.num x.den y.num y.den:=by
 refine xg (add_ok (zdg x) (zdg y)) fun f c=>?_;refine (zdg _).uniq f ?_;have hx:(x.den:Int)≠0:=by have:=x.den_nz;omega
 have hy:(y.den:Int)≠0:=by have:=y.den_nz;omega
 have e:x+y=Rat.divInt (x.num*y.den+y.num*x.den) (x.den*y.den):=by
  conv=>lhs;rw [<- Yx x,<- Yx y]
  exact Kl _ _ hx hy
 have e2:=(zqz (x:=x+y) (Yb hx hy)).mp e;apply K6 (Yb hx hy)
 grind
theorem zpi (x y:Rat):x*y=Rat.divInt (x.num*y.num) (x.den*y.den):=by
 conv=>lhs;rw [<- Yx x,<- Yx y]
 exact Qt _ _
structure Sz (n:Nat) (x:Rat):Prop where
 t:x.num.natAbs<2^n
 b:x.den<2^n
theorem zaq {m n:Nat} (h:m<=n):2^m<=2^n:=Ku (by decide) h
theorem Sz.mono {m n:Nat} {x:Rat} (h:Sz m x) (k:m<=n):Sz n x:=⟨Zl h.t (zaq k),Zl h.b (zaq k)⟩
theorem zcz {a b m n:Nat} (h:a<2^m) (k:b<2^n):a*b<2^(m+n):=by
 rw [Nat.pow_add];exact Nat.mul_lt_mul'' h k
theorem zen {x:Rat} {p q:Int} {n:Nat} (hq:q≠0) (e:x=Rat.divInt p q) (hp:p.natAbs<2^n) (hb:q.natAbs<2^n):Sz n x:=by
 refine xg ((zdg x).cross_le hq ((zqz hq).mp e)) fun a b=>?_;exact⟨Wb a hp,by have:=b;omega⟩
theorem Sz.mul {m n:Nat} {x y:Rat} (hx:Sz m x) (hy:Sz n y):Sz (m+n) (x*y):=by
 have a:(x.den:Int)≠0:=by have:=x.den_nz;omega
 have b:(y.den:Int)≠0:=by have:=y.den_nz;omega
 refine zen (Yb a b) (zpi x y) ?_ ?_
 ·rw [Wj];exact zcz hx.t hy.t
 ·rw [Wj];exact zcz hx.b hy.b
theorem Sz.add {m n:Nat} {x y:Rat} (hx:Sz m x) (hy:Sz n y):Sz (m+n+1) (x+y):=by
 have a:(x.den:Int)≠0:=by have:=x.den_nz;omega
 have b:(y.den:Int)≠0:=by have:=y.den_nz;omega
 have e:x+y=Rat.divInt (x.num*y.den+y.num*x.den) (x.den*y.den):=by
  conv=>lhs;rw [<- Yx x,<- Yx y]
  exact Kl _ _ a b
 have t1:=zcz hx.t hy.b;have t2:=zcz hy.t hx.b;rw [Ve n m] at t2;have t3:=zcz hx.b hy.b;have p2:2^(m+n+1)=2^(m+n)+2^(m+n):=by rw [Ja];omega
 refine zen (Yb a b) e ?_ ?_
 ·have h1:=Jk (x.num*y.den) (y.num*x.den);rw [Wj,Wj,Yy,Yy] at h1;omega
 ·rw [Wj,Yy,Yy];omega
theorem Sz.neg {n:Nat} {x:Rat} (hx:Sz n x):Sz n (-x):=⟨by show (-x.num).natAbs<_;rw [V3];exact hx.t,hx.b⟩
theorem Sz.sub {m n:Nat} {x y:Rat} (hx:Sz m x) (hy:Sz n y):Sz (m+n+1) (x-y):=by
 rw [G9];exact hx.add hy.neg
theorem sz_low {t b:Int} {n:Nat} (h:b≠0) (ht:t.natAbs<2^n) (hb:b.natAbs<2^n):Sz n (Rat.divInt t b):=zen h rfl ht hb
end Sf
namespace DL
def zfp:Ss:=(.cons (.asg 2 (.bi .abs (.cons (.var 0) .nil))) (.cons (.asg 3 (.bi .abs (.cons (.var 1) .nil))) (.cons (.whl (.cmp .ne (.var 3) (.int 0)) (.cons (.asg 4 (.bin .mod (.var 2) (.var 3))) (.cons (.asg 2 (.var 3)) (.cons (.asg 3 (.var 4)) .nil)))) (.cons (.retV 2) .nil))))
def zmj:Ss:=(.cons (.iff (.cmp .eq (.var 1) (.int 0)) (.cons .never .nil) .nil) (.cons (.asg 2 (.call 0 (.cons (.var 0) (.cons (.var 1) .nil)))) (.cons (.iff (.cmp .lt (.var 1) (.int 0)) (.cons (.asg 2 (.neg (.var 2))) .nil) .nil) (.cons (.ret (.tup (.cons (.bin .fdiv (.var 0) (.var 2)) (.cons (.bin .fdiv (.var 1) (.var 2)) .nil)))) .nil))))
def zcf:Ss:=(.cons (.iff (.cmp .lt (.var 1) (.bi .len (.cons (.var 0) .nil))) (.cons (.ret (.ix (.var 0) (.var 1))) .nil) .nil) (.cons (.ret (.int 0)) .nil))
def zss:Ss:=(.cons (.asg 2 (.call 0 (.cons (.ix (.var 0) (.int 1)) (.cons (.ix (.var 1) (.int 1)) .nil)))) (.cons (.asg 3 (.bin .add (.bin .mul (.ix (.var 0) (.int 0)) (.bin .fdiv (.ix (.var 1) (.int 1)) (.var 2))) (.bin .mul (.ix (.var 1) (.int 0)) (.bin .fdiv (.ix (.var 0) (.int 1)) (.var 2))))) (.cons (.asg 4 (.call 0 (.cons (.var 3) (.cons (.var 2) .nil)))) (.cons (.ret (.tup (.cons (.bin .fdiv (.var 3) (.var 4)) (.cons (.bin .mul (.bin .fdiv (.ix (.var 0) (.int 1)) (.var 2)) (.bin .fdiv (.ix (.var 1) (.int 1)) (.var 4))) .nil)))) .nil))))
def zmk:Ss:=(.cons (.ret (.call 9 (.cons (.var 0) (.cons (.tup (.cons (.neg (.ix (.var 1) (.int 0))) (.cons (.ix (.var 1) (.int 1)) .nil))) .nil)))) .nil)
def zmi:Ss:=(.cons (.ret (.call 1 (.cons (.bin .mul (.ix (.var 0) (.int 0)) (.ix (.var 1) (.int 0))) (.cons (.bin .mul (.ix (.var 0) (.int 1)) (.ix (.var 1) (.int 1))) .nil)))) .nil)
def zce:Ss:=(.cons (.asg 0 (.bi .abs (.cons (.var 0) .nil))) (.cons (.asg 1 (.bi .abs (.cons (.var 1) .nil))) (.cons (.whl (.cmp .gt (.var 1) (.int 0)) (.cons (.par 0 1 (.var 1) (.bin .mod (.var 0) (.var 1))) .nil)) (.cons (.retV 0) .nil))))
def zcv:Ss:=(.cons (.asg 2 (.call 12 (.cons (.var 0) (.cons (.var 1) .nil)))) (.cons (.iff (.cmp .lt (.var 1) (.int 0)) (.cons (.asg 2 (.bin .sub (.int 0) (.var 2))) .nil) .nil) (.cons (.ret (.tup (.cons (.bin .fdiv (.var 0) (.var 2)) (.cons (.bin .fdiv (.var 1) (.var 2)) .nil)))) .nil)))
def zml:Ss:=(.cons (.ret (.cmp .lt (.bin .mul (.ix (.var 0) (.int 0)) (.ix (.var 1) (.int 1))) (.bin .mul (.ix (.var 1) (.int 0)) (.ix (.var 0) (.int 1))))) .nil)
def zbr:Ss:=(.cons (.asg 2 (.int 0)) (.cons (.iff (.cmp .lt (.bin .add (.int 1) (.bin .mod (.bin .fdiv (.var 1) (.int 8)) (.int 62))) (.bi .len (.cons (.var 0) .nil))) (.cons (.asg 2 (.bin .fdiv (.ix (.var 0) (.bin .add (.int 1) (.bin .mod (.bin .fdiv (.var 1) (.int 8)) (.int 62)))) (.bin .pow (.int 10) (.int 64)))) .nil) .nil) (.cons (.frr (.name 3) (.range1 (.bin .mod (.var 1) (.int 8))) (.cons (.asg 2 (.bin .fdiv (.var 2) (.int 2147483587))) .nil)) (.cons (.retV 2) .nil))))
def zak:Ss:=(.cons (.asg 2 (.int 0)) (.cons (.iff (.cmp .gt (.bi .len (.cons (.var 0) .nil)) (.int 0)) (.cons (.asg 2 (.ix (.var 0) (.int 0))) .nil) .nil) (.cons (.iff (.and (.cmp .eq (.bin .mod (.bin .fdiv (.var 2) (.bin .pow (.int 10) (.int 6))) (.int 2)) (.int 1)) (.cmp .ne (.call 28 (.cons (.var 0) (.cons (.var 1) .nil))) (.int 0))) (.cons (.ret (.bin .mod (.call 28 (.cons (.var 0) (.cons (.var 1) .nil))) (.int 2147483587))) .nil) .nil) (.cons (.iff (.cmp .gt (.bi .len (.cons (.var 0) .nil)) (.int 0)) (.cons (.asg 2 (.ix (.var 0) (.bin .mod (.var 1) (.bi .min (.cons (.int 63) (.cons (.bi .len (.cons (.var 0) .nil)) .nil)))))) .nil) .nil) (.cons (.asg 3 (.bin .add (.bin .mod (.var 2) (.bin .pow (.int 10) (.int 18))) (.bin .mul (.int 48271) (.bin .add (.var 1) (.int 1))))) (.cons (.asg 3 (.bin .add (.bin .mod (.bin .mul (.var 3) (.var 3)) (.int 2147483629)) (.bin .mul (.int 69621) (.var 1)))) (.cons (.ret (.bin .mod (.bin .mul (.var 3) (.var 3)) (.int 2147483587))) .nil)))))))
def zcg:Ss:=(.cons (.ret (.comp (.call 42 (.cons (.var 1) (.cons (.var 2) .nil))) (.tup [1,2]) (.seq (.call 41 (.cons (.var 0) .nil))) 3 [] .non)) .nil)
def zjb:Ss:=(.cons (.ret (.fm .zip (.cons (.var 0) (.cons (.bin .add (.sl (.var 0) (.som (.int 1)) .non) (.sl (.var 0) .non (.som (.int 1)))) .nil)))) .nil)
def zaz:Ss:=(.cons (.asg 2 (.call 10 (.cons (.ix (.var 0) (.int 1)) (.cons (.ix (.var 1) (.int 1)) .nil)))) (.cons (.asg 3 (.call 10 (.cons (.ix (.var 1) (.int 0)) (.cons (.ix (.var 0) (.int 0)) .nil)))) (.cons (.asg 4 (.call 9 (.cons (.call 11 (.cons (.var 2) (.cons (.ix (.var 0) (.int 0)) .nil))) (.cons (.call 11 (.cons (.var 3) (.cons (.ix (.var 0) (.int 1)) .nil))) .nil)))) (.cons (.ret (.call 43 (.cons (.tup (.cons (.var 2) (.cons (.var 3) (.cons (.var 4) .nil)))) .nil))) .nil))))
def zaw:Ss:=(.cons (.asg 1 (.int 1)) (.cons (.frr (.name 2) (.seqV 0) (.cons (.asg 1 (.bin .mul (.var 1) (.ix (.var 2) (.int 1)))) .nil)) (.cons (.asg 3 (.comp (.bin .mul (.ix (.var 1) (.int 0)) (.bin .fdiv (.var 2) (.ix (.var 1) (.int 1)))) (.name 1) (.seqV 0) 2 [1] .non)) (.cons (.asg 4 (.int 0)) (.cons (.frr (.name 5) (.seqV 3) (.cons (.asg 4 (.call 0 (.cons (.var 4) (.cons (.var 5) .nil)))) .nil)) (.cons (.ret (.fm .tupl (.cons (.comp (.bin .fdiv (.var 1) (.var 2)) (.name 1) (.seqV 3) 2 [4] .non) .nil))) .nil))))))
def zau:Ss:=(.cons (.asg 3 (.bin .mod (.call 29 (.cons (.var 0) (.cons (.var 1) .nil))) (.int 4))) (.cons (.asg 4 (.lst .nil)) (.cons (.frr (.name 5) (.range1 (.bin .add (.int 3) (.bin .mod (.call 29 (.cons (.var 0) (.cons (.bin .add (.var 1) (.int 1)) .nil))) (.bin .sub (.var 2) (.int 2))))) (.cons (.asg 6 (.call 29 (.cons (.var 0) (.cons (.bin .add (.bin .add (.var 1) (.int 2)) (.var 5)) .nil)))) (.cons (.asg 7 (.tup (.cons (.bin .sub (.bin .mod (.var 6) (.int 7)) (.int 3)) (.cons (.bin .sub (.bin .mod (.bin .fdiv (.var 6) (.int 7)) (.int 7)) (.int 3)) .nil)))) (.cons (.iff (.cmp .eq (.var 3) (.int 1)) (.cons (.asg 7 (.tup (.cons (.bin .sub (.bin .mod (.var 6) (.int 2001)) (.int 1000)) (.cons (.bin .sub (.bin .mod (.bin .fdiv (.var 6) (.int 2001)) (.int 2001)) (.int 1000)) .nil)))) .nil) .nil) (.cons (.iff (.cmp .eq (.var 3) (.int 2)) (.cons (.asg 7 (.tup (.cons (.bin .mod (.var 6) (.int 3)) (.cons (.bin .mod (.bin .fdiv (.var 6) (.int 3)) (.int 3)) .nil)))) .nil) .nil) (.cons (.app 4 (.var 7)) .nil)))))) (.cons (.unp [8,9] (.ix (.var 4) (.int 0))) (.cons (.seti 4 (.neg (.int 2)) (.tup (.cons (.bin .add (.var 8) (.int 1)) (.cons (.bin .add (.var 9) (.bin .mod (.ix (.ix (.var 4) (.neg (.int 2))) (.int 1)) (.int 2))) .nil)))) (.cons (.seti 4 (.neg (.int 1)) (.tup (.cons (.bin .sub (.var 8) (.bin .mod (.ix (.ix (.var 4) (.neg (.int 1))) (.int 0)) (.int 2))) (.cons (.bin .add (.bin .add (.var 9) (.int 1)) (.bin .mod (.ix (.ix (.var 4) (.neg (.int 1))) (.int 1)) (.int 3))) .nil)))) (.cons (.retV 4) .nil)))))))
def zba:Ss:=(.cons (.asg 3 (.bin .mul (.bin .sub (.ix (.var 1) (.int 0)) (.ix (.var 0) (.int 0))) (.bin .sub (.ix (.var 2) (.int 1)) (.ix (.var 0) (.int 1))))) (.cons (.ret (.bin .sub (.var 3) (.bin .mul (.bin .sub (.ix (.var 1) (.int 1)) (.ix (.var 0) (.int 1))) (.bin .sub (.ix (.var 2) (.int 0)) (.ix (.var 0) (.int 0)))))) .nil))
def zbb:Ss:=(.cons (.asg 1 (.lst .nil)) (.cons (.frr (.name 2) (.seq (.lst (.cons (.fm .ss (.cons (.var 0) .nil)) (.cons (.fm .rev (.cons (.fm .ss (.cons (.var 0) .nil)) .nil)) .nil)))) (.cons (.asg 3 (.lst .nil)) (.cons (.frr (.name 4) (.seqV 2) (.cons (.whl (.and (.cmp .gt (.bi .len (.cons (.var 3) .nil)) (.int 1)) (.cmp .le (.call 45 (.cons (.ix (.var 3) (.neg (.int 2))) (.cons (.ix (.var 3) (.neg (.int 1))) (.cons (.var 4) .nil)))) (.int 0))) (.cons (.pop 3) .nil)) (.cons (.app 3 (.var 4)) .nil))) (.cons (.asg 1 (.bin .add (.var 1) (.sl (.var 3) .non (.som (.neg (.int 1)))))) .nil)))) (.cons (.retV 1) .nil)))
def zaf:Ss:=(.cons (.asg 3 (.call 46 (.cons (.call 34 (.cons (.var 0) (.cons (.var 1) (.cons (.var 2) .nil)))) .nil))) (.cons (.asg 4 (.call 29 (.cons (.var 0) (.cons (.bin .add (.var 1) (.int 1)) .nil)))) (.cons (.asg 5 (.ix (.lst (.cons (.int 1) (.cons (.bin .add (.int 1) (.bin .mod (.bin .fdiv (.var 4) (.int 64)) (.int 9))) (.cons (.bin .add (.int 1) (.bin .mod (.call 2 (.cons (.var 0) (.cons (.var 1) .nil))) (.bin .pow (.int 10) (.int 9)))) .nil)))) (.bin .mod (.bin .fdiv (.var 4) (.int 16)) (.int 3)))) (.cons (.asg 6 (.ix (.lst (.cons (.int 1) (.cons (.bin .add (.int 1) (.bin .mod (.call 2 (.cons (.var 0) (.cons (.bin .add (.var 1) (.int 1)) .nil))) (.bin .pow (.int 10) (.int 9)))) .nil))) (.bin .mod (.bin .fdiv (.var 4) (.int 1024)) (.int 2)))) (.cons (.asg 7 (.ix (.lst (.cons (.int 0) (.cons (.bin .sub (.bin .mod (.call 2 (.cons (.var 0) (.cons (.bin .add (.var 1) (.int 2)) .nil))) (.bin .mul (.int 2) (.bin .pow (.int 10) (.int 18)))) (.bin .pow (.int 10) (.int 18))) .nil))) (.bin .mod (.bin .fdiv (.var 4) (.int 2048)) (.int 2)))) (.cons (.ret (.comp (.tup (.cons (.call 13 (.cons (.bin .add (.bin .mul (.var 1) (.var 3)) (.var 4)) (.cons (.var 5) .nil))) (.cons (.call 13 (.cons (.bin .sub (.bin .mul (.var 2) (.var 3)) (.bin .mul (.int 2) (.var 4))) (.cons (.var 5) .nil))) .nil))) (.tup [1,2]) (.seqV 3) 3 [6,7,5] .non)) .nil))))))
def zjd:Ss:=(.cons (.ret (.call 9 (.cons (.call 11 (.cons (.tup (.cons (.var 0) (.cons (.int 1) .nil))) (.cons (.ix (.var 2) (.int 0)) .nil))) (.cons (.call 11 (.cons (.tup (.cons (.var 1) (.cons (.int 1) .nil))) (.cons (.ix (.var 2) (.int 1)) .nil))) .nil)))) .nil)
def zdy:Ss:=(.cons (.asg 1 (.tup (.cons (.int 0) (.cons (.int 1) .nil)))) (.cons (.frr (.tup [2,3]) (.seq (.call 41 (.cons (.var 0) .nil))) (.cons (.asg 4 (.call 10 (.cons (.call 11 (.cons (.ix (.var 2) (.int 0)) (.cons (.ix (.var 3) (.int 1)) .nil))) (.cons (.call 11 (.cons (.ix (.var 3) (.int 0)) (.cons (.ix (.var 2) (.int 1)) .nil))) .nil)))) (.cons (.asg 1 (.call 9 (.cons (.var 1) (.cons (.var 4) .nil)))) .nil))) (.cons (.retV 1) .nil)))
def zjc:Ss:=(.cons (.asg 3 (.call 50 (.cons (.var 1) (.cons (.var 2) (.cons (.ix (.var 0) (.int 0)) .nil))))) (.cons (.frr (.name 4) (.seq (.sl (.var 0) (.som (.int 1)) .non)) (.cons (.asg 5 (.call 50 (.cons (.var 1) (.cons (.var 2) (.cons (.var 4) .nil))))) (.cons (.iff (.call 21 (.cons (.var 3) (.cons (.var 5) .nil))) (.cons (.asg 3 (.var 5)) .nil) .nil) .nil))) (.cons (.retV 3) .nil)))
def zeh:Ss:=(.cons (.ret (.comp (.call 67 (.cons (.var 1) (.cons (.var 2) .nil))) (.name 1) (.seqV 0) 2 [1] .non)) .nil)
def zjg:Ss:=(.cons (.ret (.tup (.cons (.call 9 (.cons (.ix (.var 0) (.int 0)) (.cons (.ix (.var 1) (.int 0)) .nil))) (.cons (.call 9 (.cons (.ix (.var 0) (.int 1)) (.cons (.ix (.var 1) (.int 1)) .nil))) .nil)))) .nil)
def zgi:Ss:=(.cons (.iff (.cmp .le (.ix (.var 1) (.int 0)) (.int 0)) (.cons .never .nil) .nil) (.cons (.ret (.comp (.tup (.cons (.call 11 (.cons (.var 1) (.cons (.var 3) .nil))) (.cons (.call 11 (.cons (.var 2) (.cons (.var 3) .nil))) .nil))) (.tup [1,2]) (.seqV 0) 3 [1] .non)) .nil))
def zfn:Ss:=(.cons (.ret (.call 71 (.cons (.comp (.tup (.cons (.tup (.cons (.neg (.ix (.var 1) (.int 0))) (.cons (.ix (.var 1) (.int 1)) .nil))) (.cons (.tup (.cons (.neg (.ix (.var 2) (.int 0))) (.cons (.ix (.var 2) (.int 1)) .nil))) .nil))) (.tup [1,2]) (.seqV 0) 3 [] .non) .nil))) .nil)
def zjf:Ss:=(.cons (.iff (.cmp .eq (.ix (.var 0) (.int 0)) (.ix (.var 1) (.int 0))) (.cons (.ret (.call 21 (.cons (.ix (.var 0) (.int 1)) (.cons (.ix (.var 1) (.int 1)) .nil)))) .nil) .nil) (.cons (.ret (.call 21 (.cons (.ix (.var 0) (.int 0)) (.cons (.ix (.var 1) (.int 0)) .nil)))) .nil))
def zbd:Ss:=(.cons (.asg 1 (.int 0)) (.cons (.frr (.name 2) (.range1 (.bi .len (.cons (.var 0) .nil))) (.cons (.iff (.call 70 (.cons (.ix (.var 0) (.var 2)) (.cons (.ix (.var 0) (.var 1)) .nil))) (.cons (.asg 1 (.var 2)) .nil) .nil) .nil)) (.cons (.ret (.bin .add (.sl (.var 0) (.som (.var 1)) .non) (.sl (.var 0) .non (.som (.var 1))))) .nil)))
def zax:Ss:=(.cons (.asg 2 (.call 29 (.cons (.var 0) (.cons (.var 1) .nil)))) (.cons (.asg 3 (.call 2 (.cons (.var 0) (.cons (.var 1) .nil)))) (.cons (.asg 4 (.call 13 (.cons (.bin .sub (.bin .mod (.var 2) (.int 41)) (.int 20)) (.cons (.bin .add (.int 1) (.bin .mod (.bin .fdiv (.var 2) (.int 41)) (.int 9))) .nil)))) (.cons (.asg 5 (.call 13 (.cons (.bin .sub (.bin .mod (.var 3) (.bin .mul (.int 2) (.bin .pow (.int 10) (.int 30)))) (.bin .pow (.int 10) (.int 30))) (.cons (.ix (.lst (.cons (.int 1) (.cons (.bin .add (.int 1) (.bin .mod (.var 3) (.bin .pow (.int 10) (.int 9)))) .nil))) (.bin .mod (.var 2) (.int 2))) .nil)))) (.cons (.ret (.ix (.lst (.cons (.tup (.cons (.var 4) (.cons (.var 5) .nil))) (.cons (.tup (.cons (.var 5) (.cons (.var 4) .nil))) (.cons (.tup (.cons (.var 4) (.cons (.var 4) .nil))) .nil)))) (.bin .mod (.bin .fdiv (.var 2) (.int 369)) (.int 3)))) .nil)))))
def zje:Ss:=(.cons (.ret (.bin .sub (.bin .mul (.ix (.var 0) (.int 0)) (.ix (.var 1) (.int 1))) (.bin .mul (.ix (.var 0) (.int 1)) (.ix (.var 1) (.int 0))))) .nil)
def zfo:Ss:=(.cons (.asg 2 (.call 40 (.cons (.var 0) .nil))) (.cons (.asg 3 (.call 40 (.cons (.var 1) .nil))) (.cons (.asg 4 (.lst .nil)) (.cons (.asg 5 (.int 0)) (.cons (.asg 6 (.int 0)) (.cons (.whl (.or (.cmp .lt (.var 5) (.bi .len (.cons (.var 0) .nil))) (.cmp .lt (.var 6) (.bi .len (.cons (.var 1) .nil)))) (.cons (.app 4 (.call 67 (.cons (.ix (.var 0) (.bin .mod (.var 5) (.bi .len (.cons (.var 0) .nil)))) (.cons (.ix (.var 1) (.bin .mod (.var 6) (.bi .len (.cons (.var 1) .nil)))) .nil)))) (.cons (.asg 7 (.call 83 (.cons (.sl (.var 2) (.som (.var 5)) .non) (.cons (.sl (.var 3) (.som (.var 6)) .non) .nil)))) (.cons (.iff (.cmp .ge (.var 7) (.int 0)) (.cons (.asg 5 (.bin .add (.var 5) (.int 1))) .nil) .nil) (.cons (.iff (.cmp .le (.var 7) (.int 0)) (.cons (.asg 6 (.bin .add (.var 6) (.int 1))) .nil) .nil) .nil))))) (.cons (.retV 4) .nil)))))))
def zaj:Ss:=(.cons (.iff (.cmp .eq (.var 1) (.lst .nil)) (.cons (.ret (.int 1)) .nil) .nil) (.cons (.iff (.cmp .eq (.var 0) (.lst .nil)) (.cons (.ret (.neg (.int 1))) .nil) .nil) (.cons (.ret (.call 81 (.cons (.ix (.var 0) (.int 0)) (.cons (.ix (.var 1) (.int 0)) .nil)))) .nil)))
def zdd:Ss:=(.cons (.asg 2 (.call 10 (.cons (.call 58 (.cons (.call 82 (.cons (.var 0) (.cons (.var 1) .nil))) .nil)) (.cons (.call 9 (.cons (.call 58 (.cons (.var 0) .nil)) (.cons (.call 58 (.cons (.var 1) .nil)) .nil))) .nil)))) (.cons (.ret (.call 10 (.cons (.call 11 (.cons (.var 2) (.cons (.var 2) .nil))) (.cons (.call 11 (.cons (.tup (.cons (.int 4) (.cons (.int 1) .nil))) (.cons (.call 11 (.cons (.call 58 (.cons (.var 0) .nil)) (.cons (.call 58 (.cons (.var 1) .nil)) .nil))) .nil))) .nil)))) .nil))
def zdc:Ss:=(.cons (.asg 4 (.call 82 (.cons (.var 0) (.cons (.var 1) .nil)))) (.cons (.iff (.or (.cmp .ne (.call 82 (.cons (.var 1) (.cons (.var 0) .nil))) (.var 4)) (.cmp .ne (.call 82 (.cons (.call 66 (.cons (.var 0) (.cons (.var 2) .nil))) (.cons (.var 1) .nil))) (.call 66 (.cons (.var 4) (.cons (.var 2) .nil))))) (.cons (.ret (.bl false)) .nil) .nil) (.cons (.iff (.cmp .ne (.call 82 (.cons (.call 68 (.cons (.var 0) (.cons (.var 3) .nil))) (.cons (.call 68 (.cons (.var 1) (.cons (.var 3) .nil))) .nil))) (.call 68 (.cons (.var 4) (.cons (.var 3) .nil)))) (.cons (.ret (.bl false)) .nil) .nil) (.cons (.ret (.and (.cmp .eq (.call 82 (.cons (.call 69 (.cons (.var 0) .nil)) (.cons (.call 69 (.cons (.var 1) .nil)) .nil))) (.call 69 (.cons (.var 4) .nil))) (.cmp .eq (.call 82 (.cons (.var 0) (.cons (.var 0) .nil))) (.call 68 (.cons (.var 0) (.cons (.tup (.cons (.int 2) (.cons (.int 1) .nil))) .nil)))))) .nil))))
def zbw:Ss:=(.cons (.asg 1 (.call 47 (.cons (.var 0) (.cons (.int 1) (.cons (.int 4) .nil))))) (.cons (.asg 2 (.call 47 (.cons (.var 0) (.cons (.int 20) (.cons (.int 4) .nil))))) (.cons (.asg 3 (.call 47 (.cons (.var 0) (.cons (.int 40) (.cons (.int 4) .nil))))) (.cons (.asg 4 (.call 72 (.cons (.var 0) (.cons (.int 50) .nil)))) (.cons (.asg 5 (.call 29 (.cons (.var 0) (.cons (.int 51) .nil)))) (.cons (.asg 6 (.call 13 (.cons (.bin .add (.int 1) (.bin .mod (.var 5) (.int 20))) (.cons (.bin .add (.int 1) (.bin .mod (.bin .fdiv (.var 5) (.int 20)) (.int 20))) .nil)))) (.cons (.iff (.not (.call 89 (.cons (.var 1) (.cons (.var 2) (.cons (.var 4) (.cons (.var 6) .nil)))))) (.cons (.ret (.bl false)) .nil) .nil) (.cons (.iff (.cmp .ne (.call 82 (.cons (.call 82 (.cons (.var 1) (.cons (.var 2) .nil))) (.cons (.var 3) .nil))) (.call 82 (.cons (.var 1) (.cons (.call 82 (.cons (.var 2) (.cons (.var 3) .nil))) .nil)))) (.cons (.ret (.bl false)) .nil) .nil) (.cons (.asg 7 (.bin .sub (.bin .mod (.bin .fdiv (.var 5) (.int 400)) (.int 19)) (.int 9))) (.cons (.asg 8 (.bin .add (.int 1) (.bin .mod (.bin .fdiv (.var 5) (.int 7600)) (.int 9)))) (.cons (.iff (.cmp .ne (.call 59 (.cons (.call 82 (.cons (.var 1) (.cons (.var 3) .nil))) (.cons (.var 7) (.cons (.var 8) .nil)))) (.call 9 (.cons (.call 59 (.cons (.var 1) (.cons (.var 7) (.cons (.var 8) .nil)))) (.cons (.call 59 (.cons (.var 3) (.cons (.var 7) (.cons (.var 8) .nil)))) .nil)))) (.cons (.ret (.bl false)) .nil) .nil) (.cons (.iff (.call 21 (.cons (.call 88 (.cons (.var 1) (.cons (.var 2) .nil))) (.cons (.tup (.cons (.int 0) (.cons (.int 1) .nil))) .nil))) (.cons (.ret (.bl false)) .nil) .nil) (.cons (.ret (.cmp .eq (.call 88 (.cons (.var 1) (.cons (.call 66 (.cons (.call 68 (.cons (.var 1) (.cons (.var 6) .nil))) (.cons (.var 4) .nil))) .nil))) (.tup (.cons (.int 0) (.cons (.int 1) .nil))))) .nil)))))))))))))
end DL
namespace Hu
abbrev Pt:=Int×Int
def cr (u v:Pt):Int:=u.1*v.2-u.2*v.1
def sb (b a:Pt):Pt:=(b.1-a.1,b.2-a.2)
def o3 (a b c:Pt):Int:=cr (sb b a) (sb c a)
def ps (u:Pt):Prop:=0<u.1\/(u.1=0/\0<u.2)
def lt (a b:Pt):Prop:=a.1<b.1\/(a.1=b.1/\a.2<b.2)
theorem zbj {a b:Pt} (h:lt a b):ps (sb b a):=by
 unfold lt at h;unfold ps sb;dsimp only;omega
theorem lt_trans {a b c:Pt} (h:lt a b) (g:lt b c):lt a c:=by unfold lt at *;omega
theorem lt_irrefl (a:Pt):¬ lt a a:=by unfold lt;omega
theorem lt_tri (a b:Pt):lt a b\/a=b\/lt b a:=by
 obtain⟨a1,a2⟩:=a
 obtain⟨b1,b2⟩:=b
 unfold lt;simp only [Prod.mk.injEq];omega
theorem ykq (u v w:Pt):cr u w*v.1=cr u v*w.1+cr v w*u.1/\cr u w*v.2=cr u v*w.2+cr v w*u.2:=by
 unfold cr;constructor <;> grind
theorem nn_of_mul {a b:Int} (hb:0<b) (h:0<=a*b):0<=a:=by
 by_cases ha:0<=a
 ·exact ha
 ·have:=Int.mul_neg_of_neg_of_pos (Int.not_le.mp ha) hb;omega
theorem tr_le {u v w:Pt} (hu:ps u) (hv:ps v) (hw:ps w) (h1:0<=cr u v) (h2:0<=cr v w):0<=cr u w:=by
 refine xg (ykq u v w) fun e1 e2=>?_;have u0:0<=u.1:=by unfold ps at hu;omega
 have w0:0<=w.1:=by unfold ps at hw;omega
 rcases hv with hv | ⟨hv1,hv2⟩
 ·exact nn_of_mul hv (by rw [e1];exact Int.add_nonneg (Q7 h1 w0) (Q7 h2 u0))
 ·-- v is upright: so is w
  have h3:v.2*w.1<=0:=by unfold cr at h2;rw [hv1] at h2;omega
  have hw1:w.1=0:=by
   rcases Jd w0 with q | q
   ·have:=Uw hv2 q;omega
   ·exact q.symm
  have hw2:0<w.2:=by unfold ps at hw;omega
  have h4:cr v w=0:=by unfold cr;rw [hv1,hw1];omega
  rw [h4,Uh,Gw] at e2;exact nn_of_mul hv2 (by rw [e2];exact Q7 h1 (Ww hw2))
theorem zdw (u v:Pt):cr u v = - cr v u:=by unfold cr;grind
theorem tr_lt1 {u v w:Pt} (hu:ps u) (hv:ps v) (hw:ps w) (h1:0<cr u v) (h2:0<=cr v w):0<cr u w:=by
 by_cases h:0<cr u w
 ·exact h
 ·have h3:0<=cr w u:=by rw [zdw];omega
  have:=tr_le hv hw hu h2 h3
  rw [zdw] at this;omega
theorem tr_lt2 {u v w:Pt} (hu:ps u) (hv:ps v) (hw:ps w) (h1:0<=cr u v) (h2:0<cr v w):0<cr u w:=by
 by_cases h:0<cr u w
 ·exact h
 ·have h3:0<=cr w u:=by rw [zdw];omega
  have:=tr_le hw hu hv h3 h1
  rw [zdw] at this;omega
theorem zez (a b c:Pt):o3 a b c=cr (sb b a) (sb c b):=by unfold o3 cr sb;grind
theorem o3_aa (a c:Pt):o3 a a c=0:=by unfold o3 cr sb;grind
theorem o3_ab (a b:Pt):o3 a b b=0:=by unfold o3 cr sb;grind
theorem o3_ba (a b:Pt):o3 a b a=0:=by unfold o3 cr sb;grind
inductive Chain:List Pt->Prop where
 | one (a:Pt):Chain [a]
 | two (a b:Pt):lt a b->Chain [b,a]
 | more (a b c:Pt) (r:List Pt):Chain (b::a::r)->lt b c->0<o3 a b c->Chain (c::b::a::r)
def Over (q:Pt):List Pt->Prop
 | b::a::r=>0<=o3 a b q/\Over q (a::r)
 | _=>True
def strictOver (q:Pt):List Pt->Prop
 | b::a::r=>0<o3 a b q/\strictOver q (a::r)
 | _=>True
theorem Chain.tail {c b:Pt} {r:List Pt} (h:Chain (c::b::r)):Chain (b::r):=by
 cases h with
 | two a b h=>exact .one _
 | more a b c r h _ _=>exact h
theorem Chain.lt {c b:Pt} {r:List Pt} (h:Chain (c::b::r)):lt b c:=by
 cases h with
 | two a b h=>exact h
 | more a b c r h g _=>exact g
theorem Chain.ahead {p:Pt}:∀ {b a:Pt} {r:List Pt},Chain (b::a::r)->Hu.lt b p->0<o3 a b p->strictOver p (b::a::r):=by
 intro b a r;induction r generalizing a b with
 | nil=>intro _ _ h;exact⟨h,trivial⟩
 | cons z r ih=>
  intro h hp h0;have hab:=h.lt;have ht:=h.tail;cases h with
  | more z a b r h2 hb hz=>
   have hza:Hu.lt z a:=h2.lt;refine⟨h0,ih ht (lt_trans hab hp) ?_⟩
   have u:=zbj hza;have v:=zbj hab;have w:=zbj hp;rw [zez] at h0 hz |-;have k1:0<cr (sb a z) (sb p b):=tr_lt1 u v w hz (Ww h0);have e:cr (sb a z) (sb p a)=cr (sb a z) (sb b a)+cr (sb a z) (sb p b):=by unfold cr sb;grind
   rw [e];omega
theorem strictOver.over {q:Pt}:∀ {l:List Pt},strictOver q l->Over q l
 | [],_=>trivial
 | [_],_=>trivial
 | _::a::r,h=>⟨Ww h.1,strictOver.over (l:=a::r) h.2⟩
def popw (p:Pt):List Pt->List Pt
 | b::a::r=>if o3 a b p<=0 then popw p (a::r) else b::a::r
 | l=>l
def bent (st:List Pt):List Pt->List Pt
 | []=>st
 | p::r=>bent (p::popw p st) r
theorem Chain.allLt {c:Pt}:∀ {r:List Pt},Chain (c::r)->∀ w∈r,Hu.lt w c:=by
 intro r;induction r generalizing c with
 | nil=>intro _ w hw;cases hw
 | cons b r ih=>
  intro h w hw;rcases Zf.mp hw with e | e
  ·subst e;exact h.lt
  ·exact lt_trans (ih h.tail w e) h.lt
theorem pop_ok {S:List Pt} {p:Pt} (hS:∀ q∈S,lt q p):∀ (st:List Pt) (t:Pt) (r:List Pt),st=t::r->Chain st->(∀ q∈S,Over q st)->(∀ w∈st,w∈S)->(∀ q∈S,lt t q->0<=o3 t p q) ->
  (∀ z,st.getLast? = some z->∀ q∈S,q=z\/lt z q) ->
  ∃ t' r',popw p st=t'::r'/\Chain (p::t'::r')/\(∀ q∈S,Over q (p::t'::r'))/\(∀ w∈t'::r',w∈st)/\(t'::r').getLast? = st.getLast?:=by
 intro st;induction st with
 | nil=>intro t r e;cases e
 | cons b st ih=>
  intro t r e hc ho hw hcov hl;cases e;cases st with
  | nil=>
   refine⟨b,[],rfl,.two b p (hS b (hw b (by simp))),fun q hq=>⟨?_,trivial⟩,fun w h=>h,rfl⟩
   rcases hl b rfl q hq with e | e
   ·subst e;rw [o3_ba];exact Ux 0
   ·exact hcov q hq e
  | cons a r=>
   have hab:lt a b:=hc.lt;have hbp:lt b p:=hS b (hw b (by simp));have hap:lt a p:=lt_trans hab hbp;by_cases h0:o3 a b p<=0
   ·obtain⟨t',r',e1,e2,e3,e4,e5⟩:=ih a r rfl hc.tail (fun q hq=>(ho q hq).2) (fun w h=>hw w (Yo _ h)) (fun q hq haq=>by
     have h1:=(ho q hq).1;have h2:0<=cr (sb p a) (sb b a):=by rw [zdw];unfold o3 at h0;omega
     exact tr_le (zbj hap) (zbj hab) (zbj haq) h2 h1) (fun z hz=>hl z (by rw [Jl];exact hz))
    refine⟨t',r',?_,e2,e3,fun w h=>Yo _ (e4 w h),?_⟩
    ·rw [popw,if_pos h0];exact e1
    ·rw [e5,Jl]
   ·have h0':0<o3 a b p:=Int.not_le.mp h0;refine⟨b,a::r,by rw [popw,if_neg h0],.more a b p r hc hbp h0',fun q hq=>⟨?_,ho q hq⟩,fun w h=>h,rfl⟩
    rcases lt_tri b q with e | e | e
    ·exact hcov q hq e
    ·subst e;rw [o3_ba];exact Ux 0
    ·have h1:=(ho q hq).1;rw [zez] at h1 h0';have k1:0<=cr (sb b q) (sb b a):=by
      have e:cr (sb b q) (sb b a)=cr (sb b a) (sb q b):=by unfold cr sb;grind
      rw [e];exact h1
     have k2:=tr_lt2 (zbj e) (zbj hab) (zbj hbp) k1 h0';have e2:o3 b p q=cr (sb b q) (sb p b):=by unfold o3 cr sb;grind
     rw [e2];exact Ww k2
structure Good (S st:List Pt):Prop where
 ch:Chain st
 ov:∀ q∈S,Over q st
 sub:∀ w∈st,w∈S
 hd:∀ t,st.head? = some t->∀ q∈S,q=t\/lt q t
 ls:∀ z,st.getLast? = some z->∀ q∈S,q=z\/lt z q
theorem Good.push {S st:List Pt} {p:Pt} (g:Good S st) (hS:∀ q∈S,lt q p):Good (p::S) (p::popw p st):=by
 obtain⟨hc,ho,hw,hh,hl⟩:=g
 cases st with
 | nil=>cases hc
 | cons t r=>
  obtain⟨t',r',e1,e2,e3,e4,e5⟩:=pop_ok hS (t::r) t r rfl hc ho hw (fun q hq h=>by
   rcases hh t rfl q hq with e | e
   ·subst e;exact absurd h (lt_irrefl _)
   ·exact absurd (lt_trans h e) (lt_irrefl _)) hl
  rw [e1];refine⟨e2,fun q hq=>?_,fun w h=>?_,fun z hz q hq=>?_,fun z hz q hq=>?_⟩
  ·rcases Zf.mp hq with e | e
   ·subst e;refine⟨by rw [o3_ab];exact Ux 0,?_⟩
    cases e2 with
    | two a b h=>trivial
    | more a b c r h1 h2 h3=>exact (h1.ahead h2 h3).over
   ·exact e3 q e
  ·rcases Zf.mp h with e | e
   ·subst e;exact Wf
   ·exact Yo _ (hw w (e4 w e))
  ·cases hz;rcases Zf.mp hq with e | e
   ·exact .inl e
   ·exact .inr (hS q e)
  ·rw [Jl,e5] at hz;rcases Zf.mp hq with e | e
   ·subst e;have hz':z∈S:=hw z (Um hz);exact .inr (hS z hz')
   ·exact hl z hz q e
theorem Good.start (p:Pt):Good [p] [p]:=
 ⟨.one p,fun q _=>trivial,fun w h=>h,fun t e q hq=>by cases e;exact .inl (Zu.mp hq),fun t e q hq=>by cases e;exact .inl (Zu.mp hq)⟩
theorem zoo:∀ (l S st:List Pt),Good S st->(∀ q∈S,∀ p∈l,lt q p)->l.Pairwise lt->∃ S',Good S' (bent st l)/\∀ x,x∈S'↔x∈S\/x∈l
 | [],S,st,g,_,_=>⟨S,g,fun x=>by simp⟩
 | p::l,S,st,g,h,hp=>by
  have hp':=Z9.mp hp;obtain⟨S',g',e⟩:=zoo l (p::S) (p::popw p st) (g.push fun q hq=>h q hq p Wf) (fun q hq y hy=>by
   rcases Zf.mp hq with e | e
   ·subst e;exact hp'.1 y hy
   ·exact h q e y (Yo _ hy)) hp'.2
  exact⟨S',g',fun x=>by rw [e x,Zf,Zf];grind⟩
def Edge (a b:Pt) (st:List Pt):Prop:=∃ l1 l2,st=l1++b::a::l2
theorem Chain.suffix:∀ {l1:List Pt} {b:Pt} {r:List Pt},Chain (l1++b::r)->Chain (b::r)
 | [],_,_,h=>h
 | [_],_,_,h=>h.tail
 | x::y::l,b,r,h=>Chain.suffix (l1:=y::l) h.tail
theorem Over.edge {q:Pt}:∀ {st:List Pt} {a b:Pt},Over q st->Edge a b st->0<=o3 a b q
 | st,a,b,h,⟨l1,l2,e⟩=>by
  subst e;induction l1 with
  | nil=>exact h.1
  | cons x l1 ih=>
   cases l1 with
   | nil=>exact ih h.2
   | cons y l=>exact ih h.2
theorem strictOver.edge {q:Pt}:∀ {st:List Pt} {a b:Pt},strictOver q st->Edge a b st->0<o3 a b q
 | st,a,b,h,⟨l1,l2,e⟩=>by
  subst e;induction l1 with
  | nil=>exact h.1
  | cons x l1 ih=>
   cases l1 with
   | nil=>exact ih h.2
   | cons y l=>exact ih h.2
theorem Chain.strict {c:Pt}:∀ {st:List Pt},Chain (c::st)->strictOver c st
 | [],_=>trivial
 | [_],_=>trivial
 | b::a::r,h=>by
  cases h with
  | more a b c r h1 h2 h3=>exact h1.ahead h2 h3
theorem Chain.back {b a:Pt}:∀ {l2:List Pt},Chain (b::a::l2)->∀ c∈l2,0<cr (sb a c) (sb b a):=by
 intro l2;induction l2 generalizing a b with
 | nil=>intro _ c hc;cases hc
 | cons z l3 ih=>
  intro h c hc;have hab:=h.lt;have h1:=h.tail;cases h with
  | more z a b r h2 hb hz=>
   rw [zez] at hz;rcases Zf.mp hc with e | e
   ·subst e;exact hz
   ·have k:=ih h1 c e;have hza:=h1.lt;have hcz:Hu.lt c z:=h1.tail.allLt c e;have k2:=tr_lt1 (zbj hcz) (zbj hza) (zbj hab) k (Ww hz);have e2:cr (sb a c) (sb b a)=cr (sb z c) (sb b a)+cr (sb a z) (sb b a):=by unfold cr sb;grind
    rw [e2];omega
theorem Chain.convex {st:List Pt} {a b c:Pt} (h:Chain st) (e:Edge a b st) (hc:c∈st) (ha:c≠a) (hb:c≠b):0<o3 a b c:=by
 refine xl e fun l1 l2 e=>?_;subst e;rcases Y6.mp hc with h1 | h1
 ·-- further on
  refine xl (K4 h1) fun x y e=>?_;subst e;rw [Wm,Q6] at h;exact (h.suffix).strict.edge ⟨y,l2,rfl⟩
 ·rcases Zf.mp h1 with h2 | h2
  ·exact absurd h2 hb
  ·rcases Zf.mp h2 with h3 | h3
   ·exact absurd h3 ha
   ·have k:=(h.suffix).back c h3;have e2:o3 a b c=cr (sb a c) (sb b a):=by unfold o3 cr sb;grind
    rw [e2];exact k
def ng (a:Pt):Pt:=(-a.1,-a.2)
theorem znr (a b c:Pt):o3 (ng a) (ng b) (ng c)=o3 a b c:=by unfold o3 cr sb ng;grind
theorem lt_ng {a b:Pt}:lt (ng a) (ng b)↔lt b a:=by unfold lt ng;dsimp only;omega
theorem yjh (a:Pt):ng (ng a)=a:=by unfold ng;simp
theorem zkg {u m v:Pt} (hm:ps m) (h1:cr u m=0) (h2:cr m v=0):cr u v=0:=by
 refine xg (ykq u m v) fun e1 e2=>?_;rw [h1,h2] at e1 e2;simp only [Uh,Gw] at e1 e2;rcases hm with h | ⟨_,h⟩
 ·rcases Ui.mp e1 with z | z
  ·exact z
  ·omega
 ·rcases Ui.mp e2 with z | z
  ·exact z
  ·omega
theorem zyk {a b c u:Pt} (h1:lt a c) (h2:lt c b) (h0:o3 a b c=0) (ga:0<=cr u (sb a c)) (gb:0<=cr u (sb b c)):cr u (sb b c)=0:=by
 have n:=zbj h1;have m:=zbj h2;have p0:cr (sb c a) (sb b c)=0:=by
  have e:cr (sb c a) (sb b c) = - o3 a b c:=by unfold o3 cr sb;grind
  rw [e,h0];rfl
 have ga':cr u (sb c a)<=0:=by
  have e:cr u (sb a c) = - cr u (sb c a):=by unfold cr sb;grind
  omega
 refine xg (ykq u (sb c a) (sb b c)) fun e1 e2=>?_;rw [p0,Uh,Gw] at e1 e2;generalize sb c a=n1 at *;generalize sb b c=m1 at *;rcases Jd gb with q | q
 ·exfalso
  have m0:0<=m1.1:=by unfold ps at m;omega
  have n0:0<=n1.1:=by unfold ps at n;omega
  have r1:cr u n1*m1.1<=0:=U0 ga' m0;have l1:0<=cr u m1*n1.1:=Q7 gb n0;have z:n1.1=0:=by
   rcases Jd n0 with k | k
   ·have:=Uw q k;omega
   ·exact k.symm
  have n2:0<n1.2:=by unfold ps at n;omega
  have l2:0<cr u m1*n1.2:=Uw q n2;have m2:m1.2<0\/0<=m1.2:=by omega
  rcases m2 with k | k
  ·-- then m1.1 > 0 and so cr u n1=0
   have m3:0<m1.1:=by unfold ps at m;omega
   have z2:cr u n1*m1.1=0:=by rw [<- e1,z,Int.mul_zero]
   rcases Ui.mp z2 with y | y
   ·rw [y,Uh] at e2;omega
   ·omega
  ·have:=U0 ga' k;omega
 ·exact q.symm
theorem Edge.ng {a b:Pt} {st:List Pt} (e:Edge a b st):Edge (ng a) (ng b) (st.map Hu.ng):=by
 refine xl e fun l1 l2 e=>?_;subst e;exact⟨l1.map Hu.ng,l2.map Hu.ng,by simp⟩
theorem Good.mem_last {S st:List Pt} (g:Good S st):∃ z,st.getLast? = some z/\z∈st:=by
 cases st with
 | nil=>cases g.ch
 | cons a r=>exact⟨(a::r).getLast (by simp),List.getLast?_eq_some_getLast (by simp),List.getLast_mem _⟩
theorem Good.mem_head {S st:List Pt} (g:Good S st):∃ z,st.head? = some z/\z∈st:=by
 cases st with
 | nil=>cases g.ch
 | cons a r=>exact⟨a,rfl,Wf⟩
theorem zli {S:List Pt} {x y:Pt} (hx:x∈S) (hy:y∈S) (h1:∀ q∈S,q=x\/lt x q) (h2:∀ q∈S,q=y\/lt y q):x=y:=by
 rcases h1 y hy with e | e
 ·exact e.symm
 ·rcases h2 x hx with k | k
  ·exact k
  ·exact absurd (lt_trans e k) (lt_irrefl _)
theorem zlk {S:List Pt} {x y:Pt} (hx:x∈S) (hy:y∈S) (h1:∀ q∈S,q=x\/lt q x) (h2:∀ q∈S,q=y\/lt q y):x=y:=by
 rcases h1 y hy with e | e
 ·exact e.symm
 ·rcases h2 x hx with k | k
  ·exact k
  ·exact absurd (lt_trans e k) (lt_irrefl _)
theorem zch {a b:Pt} (h:ng a=ng b):a=b:=by rw [<- yjh a,h,yjh]
theorem zsj {S st su:List Pt} (g:Good S st) (gu:Good (S.map ng) (su.map ng)) {c:Pt} (h:su.head? = some c\/su.getLast? = some c):c∈st:=by
 rcases h with h | h
 ·have hh:(su.map ng).head? = some (ng c):=by rw [Vz,h];rfl
  have hm:=gu.hd _ hh;have hc:c∈S:=by
   have:=gu.sub (ng c) (Bf hh)
   refine xa (Z1.mp this) fun y hy e=>?_;rw [<- zch e];exact hy
  refine xa g.mem_last fun z hz hzm=>?_;have e:c=z:=zli hc (g.sub z hzm) (fun q hq=>by
   rcases hm (ng q) (Z7 hq) with k | k
   ·exact .inl (zch k)
   ·exact .inr (lt_ng.mp k)) (g.ls z hz)
  rw [e];exact hzm
 ·have hh:(su.map ng).getLast? = some (ng c):=by rw [Va,h];rfl
  have hm:=gu.ls _ hh;have hc:c∈S:=by
   have:=gu.sub (ng c) (Um hh)
   refine xa (Z1.mp this) fun y hy e=>?_;rw [<- zch e];exact hy
  refine xa g.mem_head fun z hz hzm=>?_;have e:c=z:=zlk hc (g.sub z hzm) (fun q hq=>by
   rcases hm (ng q) (Z7 hq) with k | k
   ·exact .inl (zch k)
   ·exact .inr (lt_ng.mp k)) (g.hd z hz)
  rw [e];exact hzm
theorem zgo {S st su:List Pt} (g:Good S st) (gu:Good (S.map ng) (su.map ng)) {a b c:Pt} (e:Edge a b st) (hc:c∈su) (ha:c≠a) (hb:c≠b):0<o3 a b c:=by
 have cS:c∈S:=by
  have:=gu.sub (ng c) (Z7 hc)
  refine xa (Z1.mp this) fun y hy e=>?_;rw [<- zch e];exact hy
 by_cases hin:c∈st
 ·exact g.ch.convex e hin ha hb
 ·have h0:=(g.ov c cS).edge e;rcases Jd h0 with h0 | h0
  ·exact h0
  ·exfalso
   refine xl (K4 hc) fun x y exy=>?_;have hx:x≠[]:=fun z=>hin (zsj g gu (.inl (by rw [exy,z];rfl)))
   have hy:y≠[]:=fun z=>hin (zsj g gu (.inr (by rw [exy,z];simp)))
   obtain⟨x',v,ex⟩:∃ x' v,x=x'++[v]:=⟨x.dropLast,x.getLast hx,(Qq hx).symm⟩
   obtain⟨u,y',ey⟩:∃ u y',y=u::y':=Vu hy
   subst ex ey;have e1:Edge u c su:=⟨x'++[v],y',by rw [exy]⟩;have e2:Edge c v su:=⟨x',u::y',by rw [exy];simp⟩;have tu:0<o3 u c v:=by
    have h:=gu.ch;rw [exy] at h;simp only [Ys,Zz,W3,Wm,Q6,Wo] at h;have h:=h.suffix;cases h with
    | more a b c r h1 h2 h3=>rw [<- znr];exact h3
   have on1:∀ q∈S,0<=cr (sb c u) (sb q c):=fun q hq=>by
    have:=(gu.ov (ng q) (Z7 hq)).edge e1.ng
    rw [znr,zez] at this;exact this
   have on2:∀ q∈S,0<=cr (sb v c) (sb q c):=fun q hq=>by
    have:=(gu.ov (ng q) (Z7 hq)).edge e2.ng
    rw [znr] at this;exact this
   refine xl (id e) fun l1 l2 est=>?_;have aS:a∈S:=g.sub a (by rw [est];simp);have bS:b∈S:=g.sub b (by rw [est];simp);have hab:lt a b:=by
    have h:=g.ch;rw [est] at h;exact h.suffix.lt
   rcases lt_tri b c with k | k | k
   ·-- beyond b
    have hl1:l1≠[]:=fun z=>by
     subst z;rcases g.hd b (by rw [est];rfl) c cS with q | q
     ·exact hb q
     ·exact lt_irrefl _ (lt_trans k q)
    obtain⟨l1',d,ed⟩:∃ l1' d,l1=l1'++[d]:=⟨l1.dropLast,l1.getLast hl1,(Qq hl1).symm⟩
    subst ed;have ebd:Edge b d st:=⟨l1',a::l2,by rw [est];simp⟩;have h:=g.ch;rw [est] at h;simp only [Wm,Q6,Wo] at h;have h:=h.suffix;cases h with
    | more a b d r h1 hbd h3=>
     have k1:=(g.ov c cS).edge ebd;rw [zez] at h3 h0;have:=tr_lt1 (zbj hab) (zbj hbd) (zbj k) h3 k1
     omega
   ·exact hb k.symm
   ·rcases lt_tri c a with j | j | j
    ·-- ahead of a
     have hl2:l2≠[]:=fun z=>by
      subst z;rcases g.ls a (by rw [est];simp) c cS with q | q
      ·exact ha q
      ·exact lt_irrefl _ (lt_trans j q)
     obtain⟨z,l2',ez⟩:∃ z l2',l2=z::l2':=Vu hl2
     subst ez;have eza:Edge z a st:=⟨l1++[b],l2',by rw [est];simp⟩;have h:=g.ch;rw [est] at h;have h:=h.suffix;have hza:=h.tail.lt;cases h with
     | more z a b r h1 hbd h3=>
      have k1:=(g.ov c cS).edge eza;rw [zez] at h3 k1;have k2:0<=cr (sb a c) (sb a z):=by
       have e:cr (sb a c) (sb a z)=cr (sb a z) (sb c a):=by unfold cr sb;grind
       rw [e];exact k1
      have:=tr_lt2 (zbj j) (zbj hza) (zbj hab) k2 h3
      have e:o3 a b c=cr (sb a c) (sb b a):=by unfold o3 cr sb;grind
      omega
    ·exact ha j
    ·-- between
     have f1:=zyk j k h0.symm (on1 a aS) (on1 b bS);have f2:=zyk j k h0.symm (on2 a aS) (on2 b bS);have m:=zbj k;have:cr (sb c u) (sb v c)=0:=zkg m f1 (by rw [zdw,f2];rfl)
     rw [zez] at tu;omega
theorem Good.congr {S S' st:List Pt} (g:Good S st) (h:∀ x,x∈S'↔x∈S):Good S' st:=
 ⟨g.ch,fun q hq=>g.ov q ((h q).mp hq),fun w hw=>(h w).mpr (g.sub w hw),fun t e q hq=>g.hd t e q ((h q).mp hq),fun t e q hq=>g.ls t e q ((h q).mp hq)⟩
theorem zwh (p:Pt):∀ st:List Pt,(popw p st).map ng=popw (ng p) (st.map ng)
 | []=>rfl
 | [_]=>rfl
 | b::a::r=>by
  have ih:=zwh p (a::r);by_cases h:o3 a b p<=0
  ·have h':o3 (ng a) (ng b) (ng p)<=0:=by rw [znr];exact h
   show (popw p (b::a::r)).map ng=popw (ng p) (ng b::ng a::r.map ng);rw [popw,if_pos h,popw,if_pos h'];exact ih
  ·have h':¬ o3 (ng a) (ng b) (ng p)<=0:=by rw [znr];exact h
   show (popw p (b::a::r)).map ng=popw (ng p) (ng b::ng a::r.map ng);rw [popw,if_neg h,popw,if_neg h'];rfl
theorem zzj:∀ (l st:List Pt),(bent st l).map ng=bent (st.map ng) (l.map ng)
 | [],st=>rfl
 | p::l,st=>by
  show (bent (p::popw p st) l).map ng=bent (ng p::popw (ng p) (st.map ng)) (l.map ng);rw [zzj l,Zz,zwh]
theorem zye {l:List Pt} (h:l.Pairwise lt) (hn:l≠[]):Good l (bent [] l):=by
 cases l with
 | nil=>exact absurd rfl hn
 | cons p r=>
  have hp:=Z9.mp h;obtain⟨S',g,e⟩:=zoo r [p] [p] (Good.start p) (fun q hq y hy=>by rw [Zu.mp hq];exact hp.1 y hy) hp.2
  exact g.congr fun x=>by rw [e x,Zf,Zu]
theorem yju {l:List Pt} (h:l.Pairwise lt) (hn:l≠[]):Good (l.map ng) ((bent [] l.reverse).map ng):=by
 rw [zzj];have hr:(l.reverse.map ng).Pairwise lt:=by
  rw [W4,Gh];exact h.imp fun h=>lt_ng.mpr h
 exact (zye hr (by simpa using hn)).congr fun x=>by simp
theorem zbp {st:List Pt} {i:Nat} {a b:Pt} (h1:st.reverse[i]? = some a) (h2:st.reverse[i+1]? = some b):Edge a b st:=by
 refine xb (Zn.mp h1) fun hi ea=>?_;refine xb (Zn.mp h2) fun hi2 eb=>?_;have e1:st.reverse=st.reverse.take i++a::b::st.reverse.drop (i+2):=by
  conv=>lhs;rw [<- Jy i st.reverse]
  rw [Yd hi,ea,Yd hi2,eb]
 refine⟨(st.reverse.drop (i+2)).reverse,(st.reverse.take i).reverse,?_⟩
 have e2:=congrArg List.reverse e1;rw [List.reverse_reverse] at e2;refine e2.trans ?_;simp
def ring (l:List Pt):List Pt:=(bent [] l).reverse.dropLast++(bent [] l.reverse).reverse.dropLast
theorem zik:∀ l:List Pt,(l.map ng).map ng=l
 | []=>rfl
 | x::l=>by rw [Zz,Zz,yjh,zik l]
structure Both (l st su:List Pt):Prop where
 g:Good l st
 gu:Good (l.map ng) (su.map ng)
theorem Both.turn {l st su:List Pt} (h:Both l st su):Both (l.map ng) (su.map ng) (st.map ng):=
 ⟨h.gu,by
  rw [zik,zik];exact h.g⟩
theorem Both.over {l st su:List Pt} (h:Both l st su) {a b q:Pt} (e:Edge a b st\/Edge a b su) (hq:q∈l):0<=o3 a b q:=by
 rcases e with e | e
 ·exact (h.g.ov q hq).edge e
 ·have:=(h.gu.ov (ng q) (Z7 hq)).edge e.ng
  rw [znr] at this;exact this
theorem Both.strict {l st su:List Pt} (h:Both l st su) {a b c:Pt} (e:Edge a b st\/Edge a b su) (hc:c∈st\/c∈su) (ha:c≠a) (hb:c≠b):0<o3 a b c:=by
 rcases e with e | e
 ·rcases hc with hc | hc
  ·exact h.g.ch.convex e hc ha hb
  ·exact zgo h.g h.gu e hc ha hb
 ·have ha':ng c≠ng a:=fun z=>ha (zch z)
  have hb':ng c≠ng b:=fun z=>hb (zch z)
  rw [<- znr];rcases hc with hc | hc
  ·exact zgo h.turn.g h.turn.gu e.ng (Z7 hc) ha' hb'
  ·exact h.gu.ch.convex e.ng (Z7 hc) ha' hb'
theorem yle {l:List Pt} (h:l.Pairwise lt) (hn:l≠[]):Both l (bent [] l) (bent [] l.reverse):=⟨zye h hn,yju h hn⟩
theorem Chain.nodup:∀ {st:List Pt},Chain st->st.Nodup
 | [],h=>by cases h
 | c::r,h=>by
  refine Wg.mpr ⟨fun hm=>lt_irrefl _ (h.allLt c hm),?_⟩;cases r with
  | nil=>exact Up
  | cons b r=>exact Chain.nodup h.tail
theorem Both.inner {l st su:List Pt} (h:Both l st su) {c:Pt} (h1:c∈st) (h2:c∈su):(∀ q∈l,q=c\/lt c q)\/(∀ q∈l,q=c\/lt q c):=by
 refine xl (K4 h1) fun x y e=>?_;cases x with
 | nil=>exact .inr (h.g.hd c (by rw [e];rfl))
 | cons x0 x1=>
  cases y with
  | nil=>exact .inl (h.g.ls c (by rw [e];exact Gr))
  | cons a y'=>
   obtain⟨x',b,ex⟩:∃ x' b,x0::x1=x'++[b]:=⟨(x0::x1).dropLast,(x0::x1).getLast (by simp),(Qq _).symm⟩
   rw [ex] at e;refine xl (K4 h2) fun z t e2=>?_;cases z with
   | nil=>
    have:=h.gu.hd (ng c) (by rw [e2];rfl)
    exact .inl fun q hq=>by
     rcases this (ng q) (Z7 hq) with k | k
     ·exact .inl (zch k)
     ·exact .inr (lt_ng.mp k)
   | cons z0 z1=>
    cases t with
    | nil=>
     have:=h.gu.ls (ng c) (by rw [e2,Ys];exact Gr)
     exact .inr fun q hq=>by
      rcases this (ng q) (Z7 hq) with k | k
      ·exact .inl (zch k)
      ·exact .inr (lt_ng.mp k)
    | cons u t'=>
     obtain⟨z',v,ez⟩:∃ z' v,z0::z1=z'++[v]:=⟨(z0::z1).dropLast,(z0::z1).getLast (by simp),(Qq _).symm⟩
     rw [ez] at e2;exfalso
     have hc1:=h.g.ch;rw [e] at hc1;simp only [Wm,Q6,Wo] at hc1;have hc1:=hc1.suffix;have hac:=hc1.tail.lt;have hcb:=hc1.lt;have t1:0<cr (sb c a) (sb b c):=by
      cases hc1 with
      | more a c b r k1 k2 k3=>rw [zez] at k3;exact k3
     have hc2:=h.gu.ch;rw [e2] at hc2;simp only [Ys,Zz,W3,Wm,Q6,Wo] at hc2;have hc2:=hc2.suffix;have huc:=lt_ng.mp hc2.tail.lt;have hcv:=lt_ng.mp hc2.lt;have t2:0<cr (sb u c) (sb c v):=by
      cases hc2 with
      | more a' c' b' r k1 k2 k3=>
       rw [znr,zez] at k3;have e:cr (sb u c) (sb c v)=cr (sb c u) (sb v c):=by unfold cr sb;grind
       rw [e];exact k3
     have vl:v∈l:=by
      refine xa (Z1.mp (h.gu.sub (ng v) (by rw [e2];simp))) fun y hy e=>?_;rw [<- zch e];exact hy
     have ul:u∈l:=by
      refine xa (Z1.mp (h.gu.sub (ng u) (by rw [e2];simp))) fun y hy e=>?_;rw [<- zch e];exact hy
     have k1:=h.over (.inl ⟨x'++[b],y',by rw [e]⟩:Edge a c st\/Edge a c su) vl;have k2:=h.over (.inl ⟨x',a::y',by rw [e];simp⟩:Edge c b st\/Edge c b su) ul;have k1':0<=cr (sb c v) (sb c a):=by
      have e:cr (sb c v) (sb c a)=o3 a c v:=by unfold o3 cr sb;grind
      rw [e];exact k1
     have k2':0<=cr (sb b c) (sb u c):=k2;have r1:=tr_lt2 (zbj hcb) (zbj huc) (zbj hcv) k2' t2;have r2:=tr_lt1 (zbj hcb) (zbj hcv) (zbj hac) r1 k1';rw [zdw] at r2;omega
theorem zhc {st:List Pt} {t:Pt} (h:st.head? = some t):st.reverse[st.length-1]? = some t:=by
 cases st with
 | nil=>cases h
 | cons a r=>cases h;simp
theorem zdu {st:List Pt} {t:Pt} (h:st.getLast? = some t):st.reverse[0]? = some t:=by
 rw [<- List.head?_eq_getElem?,List.head?_reverse];exact h
structure Ends (l st su:List Pt) (lo hi:Pt):Prop where
 b:Both l st su
 h1:st.head? = some hi
 h2:st.getLast? = some lo
 h3:su.head? = some lo
 h4:su.getLast? = some hi
 ne:lo≠hi
 lo_l:lo∈l
 hi_l:hi∈l
 least:∀ q∈l,q=lo\/lt lo q
 most:∀ q∈l,q=hi\/lt q hi
theorem ykn {l:List Pt} (h:l.Pairwise lt) (h2:2<=l.length):∃ lo hi,Ends l (bent [] l) (bent [] l.reverse) lo hi:=by
 have hn:l≠[]:=by intro z;subst z;simp at h2
 have b:=yle h hn;refine xa b.g.mem_head fun hi e1 m1=>?_;refine xa b.g.mem_last fun lo e2 m2=>?_;have hl:=b.g.sub lo m2;have hh:=b.g.sub hi m1;have lo':=b.g.ls lo e2;have hi':=b.g.hd hi e1;obtain⟨x,e3,m3⟩:∃ x,(bent [] l.reverse).head? = some x/\x∈bent [] l.reverse:=by
  refine xa b.gu.mem_head fun z hz _=>?_;rw [Vz] at hz;cases e:(bent [] l.reverse).head? with
  | none=>rw [e] at hz;cases hz
  | some x=>exact⟨x,rfl,Bf e⟩
 obtain⟨y,e4,m4⟩:∃ x,(bent [] l.reverse).getLast? = some x/\x∈bent [] l.reverse:=by
  refine xa b.gu.mem_last fun z hz _=>?_;rw [Va] at hz;cases e:(bent [] l.reverse).getLast? with
  | none=>rw [e] at hz;cases hz
  | some x=>exact⟨x,rfl,Um e⟩
 have inl:∀ c∈bent [] l.reverse,c∈l:=fun c hc=>by
  refine xa (Z1.mp (b.gu.sub (ng c) (Z7 hc))) fun y hy e=>?_;rw [<- zch e];exact hy
 have ex:x=lo:=zli (inl x m3) hl (fun q hq=>by
  rcases b.gu.hd (ng x) (by rw [Vz,e3];rfl) (ng q) (Z7 hq) with k | k
  ·exact .inl (zch k)
  ·exact .inr (lt_ng.mp k)) lo'
 have ey:y=hi:=zlk (inl y m4) hh (fun q hq=>by
  rcases b.gu.ls (ng y) (by rw [Va,e4];rfl) (ng q) (Z7 hq) with k | k
  ·exact .inl (zch k)
  ·exact .inr (lt_ng.mp k)) hi'
 subst ex ey;refine⟨x,y,b,e1,e2,e3,e4,fun z=>?_,hl,hh,lo',hi'⟩
 subst z;match l,h,h2 with
 | p::q::r,h,_=>
  have hpq:=(Z9.mp h).1 q (by simp);have all:∀ a∈p::q::r,a=x:=fun a ha=>by
   rcases lo' a ha with k | k
   ·exact k
   ·rcases hi' a ha with j | j
    ·exact j
    ·exact absurd (lt_trans k j) (lt_irrefl _)
  rw [all p (by simp),all q (by simp)] at hpq;exact lt_irrefl _ hpq
theorem two_of {st:List Pt} {a b:Pt} (ha:st.head? = some a) (hb:st.getLast? = some b) (h:b≠a):2<=st.length:=by
 match st,ha,hb with
 | [x],ha,hb=>cases ha;cases hb;exact absurd rfl h
 | x::y::r,_,_=>simp
theorem Ends.step {l st su:List Pt} {lo hi:Pt} (E:Ends l st su lo hi) {i:Nat} (hR:i<(st.reverse.dropLast++su.reverse.dropLast).length) {a b:Pt} (ha:(st.reverse.dropLast++su.reverse.dropLast)[i]? = some a)
  (hb:(st.reverse.dropLast++su.reverse.dropLast)[(i+1)%(st.reverse.dropLast++su.reverse.dropLast).length]? = some b):Edge a b st\/Edge a b su:=by
 have n1:=two_of E.h1 E.h2 E.ne;have n2:=two_of E.h3 E.h4 (Wk E.ne);have l1:=zhc E.h1;have l2:=zdu E.h2;have l3:=zhc E.h3;have l4:=zdu E.h4;have len:(st.reverse.dropLast++su.reverse.dropLast).length=(st.length-1)+(su.length-1):=by simp
 rw [len] at hR hb;have gU:∀ j,j<st.length-1->(st.reverse.dropLast++su.reverse.dropLast)[j]? = st.reverse[j]?:=fun j hj=>by
  rw [Z4 (by simpa using hj),Jv,if_pos (by simpa using hj)]
 have gV:∀ j,j<su.length-1->(st.reverse.dropLast++su.reverse.dropLast)[(st.length-1)+j]? = su.reverse[j]?:=fun j hj=>by
  rw [Zx (by simp),Jv];simp only [W2,Y4,Nat.add_sub_cancel_left];rw [if_pos hj]
 by_cases c:i<st.length-1
 ·left
  rw [gU i c] at ha;by_cases c2:i+1<st.length-1
  ·rw [Zt (by omega),gU (i+1) c2] at hb;exact zbp ha hb
  ·have e:i+1=st.length-1:=by omega
   rw [Zt (by omega),e] at hb;have:=gV 0 (by omega)
   rw [Nat.add_zero] at this;rw [this,l4] at hb;rw [<- e] at l1;cases hb;exact zbp ha l1
 ·right
  obtain⟨j,rfl⟩:∃ j,i=(st.length-1)+j:=⟨i-(st.length-1),by omega⟩
  rw [gV j (by omega)] at ha;by_cases c2:j+1<su.length-1
  ·rw [Zt (by omega),Nat.add_assoc,gV (j+1) c2] at hb;exact zbp ha hb
  ·have e:j+1=su.length-1:=by omega
   have em:(st.length-1+j+1)%(st.length-1+(su.length-1))=0:=by
    rw [show st.length-1+j+1=st.length-1+(su.length-1) by omega];exact Km _
   rw [em,gU 0 (by omega),l2] at hb;rw [<- e] at l3;cases hb;exact zbp ha l3
theorem zhb {st:List Pt} {c:Pt} (h:c∈st.reverse.dropLast):c∈st:=by
 have:=(Jz _).subset h
 simpa using this
theorem zel {st:List Pt} (nd:st.Nodup) {t:Pt} (h:st.head? = some t):t∉st.reverse.dropLast:=by
 cases st with
 | nil=>cases h
 | cons a r=>
  cases h;rw [We,Gu];intro z;exact (Wg.mp nd).1 (by simpa using z)
theorem yft {l:List Pt} (h:l.Nodup):l.reverse.Nodup:=Gh.mpr (h.imp fun k e=>k e.symm)
structure RingOk (l R:List Pt):Prop where
 over:∀ i a b q,R[i]? = some a->R[(i+1)%R.length]? = some b->q∈l->0<=o3 a b q
 strict:∀ i a b c,R[i]? = some a->R[(i+1)%R.length]? = some b->c∈R->c≠a->c≠b->0<o3 a b c
 sub:∀ c∈R,c∈l
 nd:R.Nodup
 first:∀ a,R[0]? = some a->∀ q∈l,q=a\/lt a q
 two:2<=R.length
 big:∀ a b c,a∈l->b∈l->c∈l->o3 a b c≠0->3<=R.length
theorem yjd {x y a b c:Pt} (h:lt x y) (ha:o3 x y a=0) (hb:o3 x y b=0) (hc:o3 x y c=0):o3 a b c=0:=by
 have m:=zbj h;have k:∀ p q:Pt,o3 x y p=0->o3 x y q=0->cr (sb y x) (sb q p)=0:=fun p q h1 h2=>by
  have e:cr (sb y x) (sb q p)=o3 x y q-o3 x y p:=by unfold o3 cr sb;grind
  rw [e,h1,h2];rfl
 exact zkg m (by rw [zdw,k a b ha hb];rfl) (k a c ha hc)
theorem ring_ok {l:List Pt} (h:l.Pairwise lt) (h2:2<=l.length):RingOk l (ring l):=by
 refine xl (ykn h h2) fun lo hi E=>?_;have n1:=two_of E.h1 E.h2 E.ne;have n2:=two_of E.h3 E.h4 (Wk E.ne);have inS:∀ c∈ring l,c∈bent [] l\/c∈bent [] l.reverse:=fun c hc=>by
  rcases Y6.mp hc with k | k
  ·exact .inl (zhb k)
  ·exact .inr (zhb k)
 have inl:∀ c∈bent [] l.reverse,c∈l:=fun c hc=>by
  refine xa (Z1.mp (E.b.gu.sub (ng c) (Z7 hc))) fun y hy e=>?_;rw [<- zch e];exact hy
 have lt_of:∀ {i:Nat} {a:Pt},(ring l)[i]? = some a->i<(ring l).length:=fun e=>(Zn.mp e).1
 have nd2:(bent [] l.reverse).Nodup:=by
  have:=E.b.gu.ch.nodup
  exact (W4.mp this).imp fun {a b} h e=>h (by rw [e])
 refine⟨fun i a b q ha hb hq=>E.b.over (E.step (lt_of ha) ha hb) hq,fun i a b c ha hb hc ca cb=>E.b.strict (E.step (lt_of ha) ha hb) (inS c hc) ca cb,fun c hc=>?_,?_,fun a ha=>?_,?_,fun a b c ha hb hc ho=>?_⟩
 ·rcases inS c hc with k | k
  ·exact E.b.g.sub c k
  ·exact inl c k
 ·unfold ring;refine U9.mpr ⟨?_,?_,fun c hc d hd e=>?_⟩
  ·exact (yft E.b.g.ch.nodup).sublist (Jz _)
  ·exact (yft nd2).sublist (Jz _)
  ·subst e;have c1:=zhb hc;have c2:=zhb hd;rcases E.b.inner c1 c2 with k | k
   ·have:c=lo:=zli (E.b.g.sub c c1) E.lo_l k E.least
    subst this;exact zel nd2 E.h3 hd
   ·have:c=hi:=zlk (E.b.g.sub c c1) E.hi_l k E.most
    subst this;exact zel E.b.g.ch.nodup E.h1 hc
 ·have:(ring l)[0]? = some lo:=by
   unfold ring;rw [Z4 (by simp;omega),Jv,if_pos (by simp;omega)];exact zdu E.h2
  rw [this] at ha;cases ha;exact E.least
 ·unfold ring;simp;omega
 ·by_cases hbig:3<=(ring l).length
  ·exact hbig
  ·exfalso
   have len:(ring l).length=((bent [] l).length-1)+((bent [] l.reverse).length-1):=by unfold ring;simp
   have e1:(bent [] l).length=2:=by omega
   have e2:(bent [] l.reverse).length=2:=by omega
   have d1:Edge lo hi (bent [] l):=by
    refine zbp (i:=0) (zdu E.h2) ?_;have:=zhc E.h1
    rw [e1] at this;exact this
   have d2:Edge hi lo (bent [] l.reverse):=by
    refine zbp (i:=0) (zdu E.h4) ?_;have:=zhc E.h3
    rw [e2] at this;exact this
   have z:∀ q∈l,o3 lo hi q=0:=fun q hq=>by
    have k1:=E.b.over (.inl d1) hq;have k2:=E.b.over (.inr d2) hq;have e:o3 hi lo q = - o3 lo hi q:=by unfold o3 cr sb;grind
    omega
   have hlt:lt lo hi:=by
    rcases E.least hi E.hi_l with k | k
    ·exact absurd k.symm E.ne
    ·exact k
   exact ho (yjd hlt (z a ha) (z b hb) (z c hc))
end Hu
namespace DL
open Sf
def fr (x:Rat):D:=.tup [.int x.num,.int (x.den:Int)]
theorem ixf0 {z:Rat}:ixD (fr z) (.int 0)=some (.int z.num):=rfl
theorem ixf1 {z:Rat}:ixD (fr z) (.int 1)=some (.int (z.den:Int)):=rfl
theorem lff {z:Rat}:lf (fr z)=true:=rfl
local macro_rules | `(tactic| walk_at "evh")=>do
 let l ← ("run_eq ykb zsh ybd ybc ex_asg asgO_s ex_unp unpO_s ex_par parO_s ex_ret retO_s ykd yie yid ex_iff iffO_t iffO_f ex_whl ex_frr forO_s ykl yhx yhw yhv zub yib yia ykm yiv yiw evB_eq ev_var ev_int ev_bl ev_bin ev_neg ev_cmp ev_and ev_or ev_not ev_tup ev_lst ev_ix ev_sl ykj ev_bi isiW_i isiW_b isiW_t isiW_l isiW_n isxW_n ex_app appO_s ex_pop popO_s clrO_s ykc yhu ev_fm lcpW yho blkR id_eq zzh zzg zcu setE_0 setE_s ykh ykk ydn ydo seqB_l seqB_t seqB_o seqD zym zsi ykg ykf evd evb bin2_s un1_s andO_t andO_f orO_t orO_f appL_s yks slO_s cmpW ixW negW notW_s tupW lstW varD_0 varD_s yal zut zjx zjw zfj zsr zdx ylv ylw ylu after lfW lf lfL Wd_v Wd_n Wb_v Wb_n Bd_s Bd_o DL.op_add DL.op_sub DL.op_mul DL.op_fdiv DL.op_mod zlv ydm zer zah op_p6 op_p9 op_p18 eqL eqD dOkL dOk beq_self_eq_true Gb op_p30 op_p64 Int.reduceEq Int.reduceLT Int.reduceLE Int.reduceNeg Int.reduceAdd Int.reduceSub Int.reduceMul Int.reduceToNat Int.reducePow Int.reduceMod Int.reduceDiv cs0 cs1 cs2 cs3 cs4 cs5 cs6 cs7 cs8 cs9 cs10 cs11 cs12 Nat.reduceSub cm_lt cm_le cm_gt cm_ge cm_eq cm_ne cm_eqB cm_neB cm_eqT cm_eqL cm_in cm_isN yla biW lenW absW minW maxW ixD_t ixD_l ixf0 ixf1 lff slD_l yko dInt_s isTy zoa Zz W3 Q6 Wo W5 Zk Ym List.getElem?_cons_zero Kc List.set_cons_zero List.set_cons_succ Y5 Bb Yt U8 List.replicate if_true if_false Nat.reduceAdd Nat.reduceLT Nat.reduceLeDiff Z0 reduceCtorEq decide_true decide_false Jm Us Bool.and_true V9 Bool.and_false Bool.false_and ne_eq not_false_eq_true and_self and_true true_and Nat.reduceEqDiff Nat.zero_ne_one Nat.one_ne_zero sl0 sl2 sl3 at1_0 at2_0 at2_1 at3_0 at3_1 at3_2 at4_0 at4_1 at4_2 at4_3 at5_0 at5_1 at5_2 at5_3 at5_4 at6_0 at6_1 at6_2 at6_3 at6_4 at6_5".splitOn " ").toArray.mapM fun s=>`(Lean.Parser.Tactic.simpLemma| $(Lean.mkIdent s.toName):term)
 `(tactic| simp only [$l,*, *])
open Sf
def dTup:D->Option (List D)
 | .tup l=>some l
 | _=>none
def dTwo:List D->Option (D×D)
 | [a,b]=>some (a,b)
 | _=>none
theorem dTup_s {d:D} {l:List D} (h:dTup d=some l):d=.tup l:=by cases d <;> first | (cases h;rfl) | (cases h;done)
theorem dTwo_s {l:List D} {p:D×D} (h:dTwo l=some p):l=[p.1,p.2]:=by
 cases l with
 | nil=>cases h
 | cons a l=>
  cases l with
  | nil=>cases h
  | cons b l=>
   cases l with
   | nil=>cases h;rfl
   | cons _ _=>cases h
def asFr (d:D):Option Rat:=(dTup d).bind fun l=>(dTwo l).bind fun z=>(dInt z.1).bind fun p=>(dInt z.2).bind fun q=>if 0<q/\Int.gcd p q=1 then some (Rat.divInt p q) else none
theorem ylq (x:Rat):asFr (fr x)=some x:=by
 have f:=zdg x;show (if 0<(x.den:Int)/\Int.gcd x.num (x.den:Int)=1 then some (Rat.divInt x.num (x.den:Int)) else none)=some x;rw [if_pos ⟨f.pos,f.co⟩,Yx]
theorem zos {d:D} {x:Rat} (h:asFr d=some x):d=fr x:=by
 refine xa (Za.mp h) fun l h1 h=>?_;refine xa (Za.mp h) fun z h2 h=>?_;refine xa (Za.mp h) fun p h3 h=>?_;refine xa (Za.mp h) fun q h4 h=>?_;split at h
 ·rename_i y;cases h;refine xg (rat_of ⟨y.1,y.2⟩) fun a b=>?_;rw [dTup_s h1,dTwo_s h2,zdv h3,zdv h4];unfold fr;rw [a,b]
 ·cases h
def okR (x:Rat):Bool:=decide (x.num.natAbs<2^4400) && decide (x.den<2^4400)
theorem yfq {n:Nat} {x:Rat} (h:Sz n x) (k:n<=4400):okR x=true:=by
 have:=h.mono k
 unfold okR;rw [Zq];exact⟨decide_eq_true this.t,decide_eq_true this.b⟩
theorem yfp {x:Rat} (h:okR x=true):Sz 4400 x:=by
 unfold okR at h;rw [Zq] at h;exact⟨of_decide_eq_true h.1,of_decide_eq_true h.2⟩
theorem zar {a b:Int} {m n:Nat} (ha:a.natAbs<2^m) (hb:b.natAbs<2^n) (hm:m<=16000) (hn:n<=16000):zap a b=true:=by
 unfold zap;rw [Zq];exact⟨decide_eq_true (Zl ha (zaq hm)),decide_eq_true (Zl hb (zaq hn))⟩
theorem zcr {b:Int} {n:Nat} (h0:b≠0) (hb:b.natAbs<2^n) (hn:n<=9000):zdj b=true:=by
 unfold zdj;rw [Zq];exact⟨decide_eq_true h0,decide_eq_true (Zl hb (zaq hn))⟩
section
variable {Γ:Nat->List D->Option W}
def zao:List D->Option W
 | [.int a,.int b]=>some (.val (.int (gc a b)))
 | _=>none
theorem zus (a b:Option B):∀ (m:Nat) (n:Nat),n<=m->∀ (g:Int) (r:Option B),0<=g->∃ r',zag (evB Γ (.cmp .ne (.var 3) (.int 0))) (exs Γ (.cons (.asg 4 (.bin .mod (.var 2) (.var 3))) (.cons (.asg 2 (.var 3)) (.cons (.asg 3 (.var 4)) .nil)))) (m+1)
  [a,b,some (.sh (.int g)),some (.sh (.int (n:Int))),r]=some (.nx [a,b,some (.sh (.int (gc g n))),some (.sh (.int 0)),r']):=by
 intro m;induction m with
 | zero=>
  intro n hn g r hg;obtain rfl:n=0:=by omega
  refine⟨r,?_⟩
  unfold zag;walk_at "evh"
  simp [zlq hg]
 | succ m ih=>
  intro n hn g r hg;unfold zag;walk_at "evh"
  by_cases h0:n=0
  ·subst h0;refine⟨r,?_⟩
   simp [zlq hg]
  ·have h1:¬ ((n:Int)=0):=by omega
   simp only [h1,decide_false,Us,if_false];walk_at "evh"
   have e:g.fmod (n:Int)=((g%(n:Int)).toNat:Int):=by
    rw [Qx _ (by omega)];have:=Yh g h1
    omega
   have l:(g%(n:Int)).toNat<=m:=by
    have:=Yl g (show (0:Int)<n by omega)
    have:=Yh g h1
    omega
   refine xb (ih _ l (n:Int) (some (.sh (.int ((g%(n:Int)).toNat:Int)))) (by omega)) fun r' q=>?_;refine⟨r',?_⟩
   rw [e,q];have e2:(((g%(n:Int)).toNat:Nat):Int)=g%n:=by have:=Yh g h1;omega
   rw [e2,zpq]
theorem zhk (b:Int):(if b<0 then -b else b)=((b.natAbs:Nat):Int):=by split <;> omega
theorem ok_divisor:∀ ds w,ds.length=2->zao ds=some w->run Γ zfp 5 ds=some w:=by
 intro ds w _ h;unfold zao at h;split at h
 ·rename_i a b _;cases h;unfold zfp;walk_at "evh"
  refine xb (zus (Γ:=Γ) (some (.sh (.int a))) (some (.sh (.int b))) b.natAbs b.natAbs (Zg _) (if a<0 then -a else a) none (by split <;> omega)) fun r' q=>?_;rw [zhk b,zdl q];walk_at "evh"
  rw [<- zhk b,yge]
 ·cases h
theorem zkk:∀ (m:Nat) (n:Nat),n<=m->∀ (g:Int),0<=g->zag (evB Γ (.cmp .gt (.var 1) (.int 0))) (exs Γ (.cons (.par 0 1 (.var 1) (.bin .mod (.var 0) (.var 1))) .nil)) (m+1)
  [some (.sh (.int g)),some (.sh (.int (n:Int)))]=some (.nx [some (.sh (.int (gc g n))),some (.sh (.int 0))]):=by
 intro m;induction m with
 | zero=>
  intro n hn g hg;obtain rfl:n=0:=by omega
  unfold zag;walk_at "evh"
  simp [zlq hg]
 | succ m ih=>
  intro n hn g hg;unfold zag;walk_at "evh"
  by_cases h0:n=0
  ·subst h0;simp [zlq hg]
  ·have h1:¬ ((n:Int)=0):=by omega
   have h2:(0:Int)<n:=by omega
   simp only [h1,h2,decide_true,if_false];walk_at "evh"
   have e:g.fmod (n:Int)=((g%(n:Int)).toNat:Int):=by
    rw [Qx _ (by omega)];have:=Yh g h1
    omega
   have l:(g%(n:Int)).toNat<=m:=by
    have:=Yl g (show (0:Int)<n by omega)
    have:=Yh g h1
    omega
   have q:=ih _ l (n:Int) (by omega);have e2:(((g%(n:Int)).toNat:Nat):Int)=g%n:=by have:=Yh g h1;omega
   rw [e2] at q;first
    | (rw [e,e2,q,zpq])
    | (rw [q,zpq])
theorem ok_law_divisor:∀ ds w,ds.length=2->zao ds=some w->run Γ zce 2 ds=some w:=by
 intro ds w _ h;unfold zao at h;split at h
 ·rename_i a b _;cases h;unfold zce;walk_at "evh"
  have q:=zkk (Γ:=Γ) b.natAbs b.natAbs (Zg _) (if a<0 then -a else a) (by split <;> omega);rw [zhk b,zdl q];walk_at "evh"
  rw [<- zhk b,yge]
 ·cases h
end
set_option exponentiation.threshold 20000
open Sf
theorem zed {a b:Int}:zao [.int a,.int b]=some (.val (.int (gc a b))):=rfl
section
variable {Γ:Nat->List D->Option W}
def zbu:List D->Option W
 | [.int t,.int b]=>if b≠0/\b.natAbs<2^9000 then some (.val (fr (Rat.divInt t b))) else none
 | _=>none
theorem yjx {t b:Int} (h:b≠0):(gc t b).natAbs<=b.natAbs:=by
 have:=Qk t b
 exact zat this h
theorem zsl {t b:Int} (h:b≠0) (hb:b.natAbs<2^9000):zdj (gc t b)=true/\zdj (-(gc t b))=true:=by
 have p:=zir (a:=t) h;have l:=yjx (t:=t) h;exact⟨zcr (n:=9000) (by omega) (by omega) (Zg _),zcr (n:=9000) (by omega) (by rw [V3];omega) (Zg _)⟩
theorem ygh {t b:Int} (h:b≠0):fr (Rat.divInt t b)=.tup [.int (low1 t b),.int (low2 t b)]:=by
 refine xg (yjm (t:=t) h) fun a c=>?_;unfold fr;rw [a,c]
theorem ok_ratio (h0:Γ 0=zao):∀ ds w,ds.length=2->zbu ds=some w->run Γ zmj 3 ds=some w:=by
 intro ds w _ h;unfold zbu at h;split at h
 ·rename_i t b _;split at h
  ·rename_i z;cases h;unfold zmj;walk_at "evh"
   try simp only [z.1,decide_false]
   try walk_at "evh"
   simp only [h0,zed];walk_at "evh"
   refine xg (zsl (t:=t) z.1 z.2) fun g1 g2=>?_;rw [ygh z.1];unfold low1 low2 by_;by_cases hb:b<0
   ·simp only [hb,decide_true];walk_at "evh"
    try simp only [g2]
    try walk_at "evh"
   ·simp only [hb,decide_false];walk_at "evh"
    try simp only [g1]
    try walk_at "evh"
  ·cases h
 ·cases h
def fr2 (C:Rat->Rat->Bool) (g:Rat->Rat->D):List D->Option W
 | [a,b]=>match asFr a,asFr b with
  | some x,some y=>if C x y=true then some (.val (g x y)) else none
  | _,_=>none
 | _=>none
theorem zhd {C:Rat->Rat->Bool} {g:Rat->Rat->D} {ds:List D} {w:W} (h:fr2 C g ds=some w):∃ x y,ds=[fr x,fr y]/\C x y=true/\w=.val (g x y):=by
 unfold fr2 at h;split at h
 ·split at h
  ·rename_i x y hx hy;split at h
   ·rename_i z;cases h;exact⟨x,y,by rw [zos hx,zos hy],z,rfl⟩
   ·cases h
  ·cases h
 ·cases h
theorem zan {C:Rat->Rat->Bool} {g:Rat->Rat->D} {x y:Rat} (h:C x y=true):fr2 C g [fr x,fr y]=some (.val (g x y)):=by
 unfold fr2;simp only [ylq,h,if_true]
def okRR (x y:Rat):Bool:=okR x && okR y
theorem B9 {m n:Nat} {x y:Rat} (hx:Sz m x) (hy:Sz n y) (hm:m<=4400) (hn:n<=4400):okRR x y=true:=by
 unfold okRR;rw [yfq hx hm,yfq hy hn];rfl
theorem zlg {x y:Rat} (h:okRR x y=true):Sz 4400 x/\Sz 4400 y:=by
 unfold okRR at h;rw [Zq] at h;exact⟨yfp h.1,yfp h.2⟩
def zbv:List D->Option W:=fr2 okRR fun x y=>fr (x+y)
def zci:List D->Option W:=fr2 okRR fun x y=>fr (x-y)
def zam:List D->Option W:=fr2 okRR fun x y=>fr (x*y)
def zcq:List D->Option W:=fr2 okRR fun x y=>.bl (decide (x<y))
theorem zbq (x:Rat):(0:Int)<x.den:=(zdg x).pos
theorem ok_plus (h0:Γ 0=zao):∀ ds w,ds.length=2->zbv ds=some w->run Γ zss 5 ds=some w:=by
 intro ds w _ h;refine xc (zhd h) fun x y qz2 hC qz4=>?_;subst qz2;subst qz4
 refine xg (zlg hC) fun sx sy=>?_;have px:=zbq x;have py:=zbq y;have hne:(y.den:Int)≠0:=by omega
 have gp:=zir (a:=(x.den:Int)) hne;have gl:=yjx (t:=(x.den:Int)) hne;have e1:((y.den:Int)).natAbs=y.den:=Yy _;have d1:zdj (gc x.den y.den)=true:=zcr (n:=4400) (by omega) (by have:=sy.b;omega) (by decide);have hle:∀ {p s:Int},0<s->(p.fdiv s).natAbs<=p.natAbs:=fun {p s} hs=>by
  rw [K5 _ (Ww hs)];have:=Int.natAbs_ediv_le_natAbs p s
  exact this
 have l1:=hle (p:=(y.den:Int)) gp;have l2:=hle (p:=(x.den:Int)) gp;have e2:((x.den:Int)).natAbs=x.den:=Yy _;have m1:zap x.num ((y.den:Int).fdiv (gc x.den y.den))=true:=zar sx.t (n:=4400) (by have:=sy.b;omega) (by decide) (by decide);have m2:zap y.num ((x.den:Int).fdiv (gc x.den y.den))=true:=zar sy.t (n:=4400) (by have:=sx.b;omega) (by decide) (by decide);have hne2:gc (x.den:Int) y.den≠0:=by omega
 have rp:=zir (a:=addT x.num x.den y.num y.den) hne2;have rl:=yjx (t:=addT x.num x.den y.num y.den) hne2;have d2:zdj (gc (addT x.num x.den y.num y.den) (gc x.den y.den))=true:=zcr (n:=4400) (by omega) (by have:=sy.b;omega) (by decide);have l3:=hle (p:=(y.den:Int)) rp;have m3:zap ((x.den:Int).fdiv (gc x.den y.den)) ((y.den:Int).fdiv (gc (addT x.num x.den y.num y.den) (gc x.den y.den)))=true:=zar (m:=4400) (n:=4400) (by have:=sx.b;omega) (by have:=sy.b;omega) (by decide) (by decide);refine xg (ylx x y) fun q1 q2=>?_;have eT:x.num*(y.den:Int).fdiv (gc x.den y.den)+y.num*(x.den:Int).fdiv (gc x.den y.den)=addT x.num x.den y.num y.den:=rfl;have hd:=@zed;clear hC h px py sx sy hne gp gl hne2 rp rl l1 l2 l3 hle;unfold zss;simp only [fr];walk_at "evh"
 rfl
theorem ok_minus (h9:Γ 9=zbv):∀ ds w,ds.length=2->zci ds=some w->run Γ zmk 2 ds=some w:=by
 intro ds w _ h;refine xc (zhd h) fun x y qz2 hC qz4=>?_;subst qz2;subst qz4
 refine xg (zlg hC) fun sx sy=>?_;unfold zmk;simp only [fr];walk_at "evh"
 have e:(D.tup [.int (-y.num),.int (y.den:Int)])=fr (-y):=rfl;have e2:(D.tup [.int x.num,.int (x.den:Int)])=fr x:=rfl;have q:zbv [fr x,fr (-y)]=some (.val (fr (x + -y))):=zan (B9 sx sy.neg (Zg _) (Zg _));simp only [h9,e,e2,q];walk_at "evh"
 rw [G9];rfl
theorem ok_times (h1:Γ 1=zbu):∀ ds w,ds.length=2->zam ds=some w->run Γ zmi 2 ds=some w:=by
 intro ds w _ h;refine xc (zhd h) fun x y qz2 hC qz4=>?_;subst qz2;subst qz4
 refine xg (zlg hC) fun sx sy=>?_;have px:=zbq x;have py:=zbq y;have m1:zap x.num y.num=true:=zar sx.t sy.t (by decide) (by decide);have m2:zap (x.den:Int) y.den=true:=zar (m:=4400) (n:=4400) (by rw [Yy];exact sx.b) (by rw [Yy];exact sy.b) (by decide) (by decide);have hb:((x.den:Int)*y.den).natAbs<2^9000:=by
  rw [Wj,Yy,Yy];exact Zl (zcz sx.b sy.b) (zaq (by decide))
 have hne:(x.den:Int)*y.den≠0:=Yb (by omega) (by omega);unfold zmi;simp only [fr];walk_at "evh"
 try simp only [m1,m2]
 try walk_at "evh"
 have q:zbu [.int (x.num*y.num),.int ((x.den:Int)*y.den)]=some (.val (fr (x*y))):=by
  show (if _ then _ else _)=_;rw [if_pos ⟨hne,hb⟩,<- zpi]
 simp only [h1,q];walk_at "evh"
 rfl
end
set_option exponentiation.threshold 20000
open Sf
section
variable {Γ:Nat->List D->Option W}
def zcj:List D->Option W
 | [.lst l,.int k]=>if k<l.length then (L2.atI l k).map W.val else some (.val (.int 0))
 | _=>none
theorem ok_law_cell_at:∀ ds w,ds.length=2->zcj ds=some w->run Γ zcf 2 ds=some w:=by
 intro ds w _ h;unfold zcj at h;split at h
 ·rename_i l k _;unfold zcf;walk_at "evh"
  split at h
  ·rename_i z;refine xa (Zb.mp h) fun d hd e=>?_;subst e;walk_at "evh"
  ·rename_i z;cases h;walk_at "evh"
 ·cases h
def isInt:D->Bool
 | .int _=>true
 | _=>false
def mWhole:List D->Option W
 | [.exc _]=>none
 | [d]=>some (.val (.bl (isInt d)))
 | _=>none
theorem ok_law_lowest (h12:Γ 12=zao):∀ ds w,ds.length=2->zbu ds=some w->run Γ zcv 3 ds=some w:=by
 intro ds w _ h;unfold zbu at h;split at h
 ·rename_i t b _;split at h
  ·rename_i z;cases h;refine xg (zsl (t:=t) z.1 z.2) fun g1 g2=>?_;have g3:(0:Int)-gc t b = -(gc t b):=by omega
   rw [ygh z.1];unfold low1 low2 by_ zcv;have hd:=@zed;by_cases hb:b<0
   ·walk_at "evh"
   ·walk_at "evh"
  ·cases h
 ·cases h
end
set_option exponentiation.threshold 20000
open Sf
section
variable {Γ:Nat->List D->Option W}
theorem zav {a b:Int} {m n:Nat} (h:a.natAbs<2^m) (k:b.natAbs<2^n):(a*b).natAbs<2^(m+n):=by
 rw [Wj];exact zcz h k
end
set_option exponentiation.threshold 20000
open Sf
section
variable {Γ:Nat->List D->Option W}
theorem zhg {ns:List Int} {k:Nat}:∃ c,zcj [.lst (ns.map D.int),.int (k:Int)]=some (.val (.int c)):=by
 unfold zcj;by_cases h:k<ns.length
 ·have hk:((k:Int)<((ns.map D.int).length:Nat)):=by rw [Zd];omega
  simp only [hk,if_true];refine⟨ns[k],?_⟩
  rw [L2.atI_nat (v:=.int ns[k]) (by rw [Zj,Ze h];rfl)];rfl
 ·have hk:¬ ((k:Int)<((ns.map D.int).length:Nat)):=by rw [Zd];omega
  simp only [hk,if_false];exact⟨0,rfl⟩
end
open Sf
section
variable {Γ:Nat->List D->Option W}
def per (c:Int):Int:=match (c%4).toNat with
 | 0=>1
 | 1=>3
 | 2=>1000000000
 | _=>1000000000000000000
end
open Sf
section
variable {Γ:Nat->List D->Option W}
end
open Sf
section
variable {Γ:Nat->List D->Option W}
end
open Sf
section
variable {Γ:Nat->List D->Option W}
theorem B3 {x:Rat} {n:Nat} (h:Sz n x):((x.den:Int)).natAbs<2^n:=by rw [Yy];exact h.b
theorem ycu (x y:Rat):decide (x<y)=decide (x.num*(y.den:Int)<y.num*(x.den:Int)):=by
 rw [Kw];simp only [decide_eq_true_eq];exact Rat.lt_iff x y
theorem num_zero {y:Rat}:y.num=0↔y=0:=Rat.num_eq_zero
theorem ok_below:∀ ds w,ds.length=2->zcq ds=some w->run Γ zml 2 ds=some w:=by
 intro ds w _ h;refine xc (zhd h) fun x y e hc hw=>?_;subst e;subst hw;refine xg (zlg hc) fun sx sy=>?_;have m1:zap x.num (y.den:Int)=true:=zar sx.t (B3 sy) (by decide) (by decide);have m2:zap y.num (x.den:Int)=true:=zar sy.t (B3 sx) (by decide) (by decide);rw [ycu];clear sx sy hc h;unfold zml;walk_at "evh"
end
open Sf
section
variable {Γ:Nat->List D->Option W}
theorem zgj {α:Type} {l:List α} {i:Int} (h0:0<=i) (h1:i<l.length):L2.atI l i=l[i.toNat]?:=by
 unfold L2.atI L2.ixN;rw [if_pos h0,if_pos h1,Yt]
theorem zqa {α:Type} {l:List α} {i:Int} (h0:i<0) (h1 : -(l.length:Int)<=i):L2.atI l i=l[(i+l.length).toNat]?:=by
 unfold L2.atI L2.ixN;rw [if_neg (by omega),if_pos h1,Yt]
theorem zzt {ns:List Int} {i:Int} (h0:0<=i) (h1:i<ns.length):∃ c,L2.atI (ns.map D.int) i=some (.int c):=by
 rw [zgj h0 (by rw [Zd];exact h1)];have h:i.toNat<ns.length:=by omega
 exact⟨ns[i.toNat],by rw [Zj,Ze h];rfl⟩
def zgm:List D->Option W:=run (tab []) zbr 4
theorem ok_law_block:∀ ds w,ds.length=2->zgm ds=some w->run Γ zbr 4 ds=some w:=fun ds w _ h=>zby [] (fun p hp=>by cases hp) (by decide) ds w h
theorem zga (s k:Option B):∀ (l:List D) (a:Int) (o:Option B),∃ a' o',forN (zbh (.name 3)) (exs Γ (.cons (.asg 2 (.bin .fdiv (.var 2) (.int 2147483587))) .nil)) l [s,k,some (.sh (.int a)),o]=some (.nx [s,k,some (.sh (.int a')),o'])
 | [],a,o=>⟨a,o,rfl⟩
 | d::l,a,o=>by
  refine xl (zga s k l (a/2147483587) (some (.sh d))) fun a' o' q=>?_;refine⟨a',o',?_⟩
  unfold forN;walk_at "evh"
theorem zze (ns:List Int) (k:Nat):∃ r:Int,run Γ zbr 4 [.lst (ns.map D.int),.int (k:Int)]=some (.val (.int r)):=by
 have hk0:(0:Int)<=(k:Int):=by omega
 have e8:=Yh (k:Int) (show (8:Int)≠0 by decide);have e8':=Yl (k:Int) (show (0:Int)<8 by decide);have e62:=Yh ((k:Int)/8) (show (62:Int)≠0 by decide);have hr:(-4611686018427387904<=(k:Int)%8/\(k:Int)%8<4611686018427387904)=True:=eq_true (by omega);unfold zbr;by_cases z:1+(k:Int)/8%62<(ns.length:Int)
 ·refine xb (zzt (ns:=ns) (i:=1+(k:Int)/8%62) (by omega) z) fun c hc=>?_;refine xl (zga (Γ:=Γ) (some (.sh (.lst (ns.map D.int)))) (some (.sh (.int (k:Int)))) (zbk 0 ((k:Int)%8).toNat) (c/10000000000000000000000000000000000000000000000000000000000000000) none) fun a' o' q=>?_;refine⟨a',?_⟩
  have zz:decide (1+(k:Int)/8%62<((ns.map D.int).length:Int))=true:=by rw [Zd];exact decide_eq_true z
  clear e8 e8' e62 hk0 z;walk_at "evh"
 ·refine xl (zga (Γ:=Γ) (some (.sh (.lst (ns.map D.int)))) (some (.sh (.int (k:Int)))) (zbk 0 ((k:Int)%8).toNat) 0 none) fun a' o' q=>?_;refine⟨a',?_⟩
  have zz:decide (1+(k:Int)/8%62<((ns.map D.int).length:Int))=false:=by rw [Zd];exact decide_eq_false z
  clear e8 e8' e62 hk0 z;walk_at "evh"
def zbl:List D->Option W:=run (tab [(28,zgm)]) zak 4
theorem ok_law_mixed (h28:Γ 28=zgm):∀ ds w,ds.length=2->zbl ds=some w->run Γ zak 4 ds=some w:=fun ds w _ h=>zby [(28,zgm)] (by intro p hp;rcases Zu.mp hp with rfl;exact h28) (by decide) ds w h
abbrev bMx:Ss:=(.cons (.asg 3 (.bin .add (.bin .mod (.var 2) (.bin .pow (.int 10) (.int 18))) (.bin .mul (.int 48271) (.bin .add (.var 1) (.int 1))))) (.cons (.asg 3 (.bin .add (.bin .mod (.bin .mul (.var 3) (.var 3)) (.int 2147483629)) (.bin .mul (.int 69621) (.var 1)))) (.cons (.ret (.bin .mod (.bin .mul (.var 3) (.var 3)) (.int 2147483587))) .nil)))
abbrev bMy:Ss:=(.cons (.iff (.cmp .gt (.bi .len (.cons (.var 0) .nil)) (.int 0)) (.cons (.asg 2 (.ix (.var 0) (.bin .mod (.var 1) (.bi .min (.cons (.int 63) (.cons (.bi .len (.cons (.var 0) .nil)) .nil)))))) .nil) .nil) bMx)
theorem yfw {x:Int} (h0:0<=x) (h1:x<2000000000000000000):zap x x=true:=zah (by omega) (by omega) (by omega) (by omega)
theorem zrp {a b:Int} (h0:0<=b) (h1:b<=1001) (h2:0<=a) (h3:a<=100000):zap a b=true:=zah (by omega) (by omega) (by omega) (by omega)
theorem yfv {c k a M:Int} (h0:0<=k) (h1:k<=1001) (ha:0<=a) (hb:a<=100000) (hM:0<M) (hN:M<=1000000000000000000):0<=c%M+a*k/\c%M+a*k<2000000000000000000:=by
 have a0:=Yh c (show M≠0 by omega);have a1:=Yl c hM;have p0:=Q7 ha h0;have p1:a*k<=100000*1001:=Int.mul_le_mul hb h1 h0 (by decide);omega
theorem znu (L:D) {k:Int} (h0:0<=k) (h1:k<=1000) (c:Int):∃ r:Int,exs Γ bMx [some (.sh L),some (.sh (.int k)),some (.sh (.int c)),none]=some (.rt (.val (.int r)))/\0<=r/\r<2147483587:=by
 have s1:=yfv (c:=c) (k:=k+1) (a:=48271) (M:=1000000000000000000) (by omega) (by omega) (by decide) (by decide) (by decide) (by decide);have m1:zap 48271 (k+1)=true:=zrp (by omega) (by omega) (by decide) (by decide);have m2:=yfw s1.1 s1.2;have m3:zap 69621 k=true:=zrp h0 (by omega) (by decide) (by decide);generalize hq:(c%1000000000000000000+48271*(k+1))*(c%1000000000000000000+48271*(k+1))=q1;have s2:=yfv (c:=q1) (k:=k) (a:=69621) (M:=2147483629) h0 (by omega) (by decide) (by decide) (by decide) (by decide);have m4:=yfw s2.1 s2.2;refine⟨(q1%2147483629+69621*k)*(q1%2147483629+69621*k)%2147483587,?_,Yh _ (by decide),Yl _ (by decide)⟩
 clear s1 s2 h0 h1;unfold bMx;walk_at "evh"
theorem zxe {L:List D} {k m c n0:Int} {o:Out} (gt:decide ((0:Int)<(L.length:Int))=true) (hm:(if (L.length:Int)<63 then (L.length:Int) else 63)=m) (hmz:(m=0)=False) (fm:k.fmod m=k%m) (hc:L2.atI L (k%m)=some (.int c)) (h:exs Γ bMx [some (.sh (.lst L)),some (.sh (.int k)),some (.sh (.int c)),none]=some o):exs Γ bMy [some (.sh (.lst L)),some (.sh (.int k)),some (.sh (.int n0)),none]=some o:=by
 unfold bMy;generalize bMx=bd at *;walk_at "evh"
theorem zxd {φ:List D->Option W} (h28:Γ 28=φ) {k b r:Int} (hb:φ [.lst [],.int k]=some (.val (.int b))) (h:exs Γ bMx [some (.sh (.lst [])),some (.sh (.int k)),some (.sh (.int 0)),none]=some (.rt (.val (.int r)))):run Γ zak 4 [.lst [],.int k]=some (.val (.int r)):=by
 unfold bMx at h;unfold zak;walk_at "evh"
theorem zxc {φ:List D->Option W} (h28:Γ 28=φ) {L:List D} {k b n0:Int} (gt:decide ((0:Int)<(L.length:Int))=true) (a0:L2.atI L 0=some (.int n0)) (hb:φ [.lst L,.int k]=some (.val (.int b))) (z:n0/1000000%2=1) (z2:¬ b=0):run Γ zak 4 [.lst L,.int k]=some (.val (.int (b%2147483587))):=by
 unfold zak;walk_at "evh"
theorem zxb {φ:List D->Option W} (h28:Γ 28=φ) {L:List D} {k b n0 r:Int} (gt:decide ((0:Int)<(L.length:Int))=true) (a0:L2.atI L 0=some (.int n0)) (hb:φ [.lst L,.int k]=some (.val (.int b))) (z:n0/1000000%2=1->b=0) (h:exs Γ bMy [some (.sh (.lst L)),some (.sh (.int k)),some (.sh (.int n0)),none]=some (.rt (.val (.int r)))):run Γ zak 4 [.lst L,.int k]=some (.val (.int r)):=by
 unfold bMy bMx at h;unfold zak;by_cases y:n0/1000000%2=1
 ·have e:=z y;subst e;clear z;rw [run_eq,zsh];walk_at "evh"
 ·clear z;walk_at "evh"
theorem zda (ns:List Int) (k:Nat) (hk:k<=1000):∃ r:Int,zbl [.lst (ns.map D.int),.int (k:Int)]=some (.val (.int r))/\0<=r/\r<2147483587:=by
 unfold zbl;generalize hΓ:tab [(28,zgm)]=Γ;have h28:Γ 28=zgm:=by rw [<- hΓ];rfl
 refine xb (zze (Γ:=tab []) ns k) fun b hb=>?_;have hb:zgm [.lst (ns.map D.int),.int (k:Int)]=some (.val (.int b)):=hb;have k0:(0:Int)<=(k:Int):=Kg _;have k1:(k:Int)<=1000:=by omega
 clear hΓ;cases ns with
 | nil=>
  refine xa (znu (Γ:=Γ) (.lst []) k0 k1 0) fun r h1 h2=>?_;exact⟨r,zxd h28 hb h1,h2⟩
 | cons n0 ns=>
  have hl:((n0::ns).map D.int).length=ns.length+1:=by rw [Zd,Zk]
  have gt:decide ((0:Int)<(((n0::ns).map D.int).length:Int))=true:=decide_eq_true (by rw [hl];omega);have a0:L2.atI ((n0::ns).map D.int) 0=some (.int n0):=by
   rw [zgj (Ux _) (by rw [hl];omega)];rfl
  by_cases z:n0/1000000%2=1 /\ ¬ b=0
  ·exact⟨_,zxc h28 gt a0 hb z.1 z.2,Yh _ (by decide),Yl _ (by decide)⟩
  ·have z':n0/1000000%2=1->b=0:=fun y=>Yf fun w=>z ⟨y,w⟩
   obtain⟨m,hm⟩:∃ m:Int,(if (((n0::ns).map D.int).length:Int)<63 then (((n0::ns).map D.int).length:Int) else 63)=m:=⟨_,rfl⟩
   have hm2:0<m/\m<=((n0::ns).length:Int):=by
    rw [Zk,<- hm,hl];split
    ·constructor <;> omega
    ·constructor <;> omega
   refine xb (zzt (ns:=n0::ns) (i:=(k:Int)%m) (Yh _ (by omega)) (Int.lt_of_lt_of_le (Yl _ hm2.1) hm2.2)) fun c hc=>?_;refine xa (znu (Γ:=Γ) (.lst ((n0::ns).map D.int)) k0 k1 c) fun r h1 h2=>?_;exact⟨r,zxb h28 gt a0 hb z' (zxe gt hm (eq_false (by omega)) (zlv hm2.1) hc h1),h2⟩
end
open Sf
def pD (p:Int×Int):D:=.tup [.int p.1,.int p.2]
theorem ycy (p:Int×Int):lf (pD p)=true:=rfl
theorem pD_ix0 {p:Int×Int}:ixD (pD p) (.int 0)=some (.int p.1):=rfl
theorem pD_ix1 {p:Int×Int}:ixD (pD p) (.int 1)=some (.int p.2):=rfl
structure Bd (n:Int) (p:Int×Int):Prop where
 a : -n<=p.1
 b:p.1<=n
 c : -n<=p.2
 d:p.2<=n
structure Pts (ps:List (Int×Int)):Prop where
 three:3<=ps.length
 bd:∀ p∈ps,Bd 2000 p
 left:∃ o p q,o∈ps/\p∈ps/\q∈ps/\0<(p.1-o.1)*(q.2-o.2)-(p.2-o.2)*(q.1-o.1)
theorem Bd.up {p:Int×Int} (h:Bd 1000 p):Bd 2000 p:=by
 obtain⟨a,b,c,d⟩:=h
 exact⟨by omega,by omega,by omega,by omega⟩
theorem Bd.nx {p:Int×Int} {x y:Int} (h:Bd 1000 p) (hx : -2<=x/\x<=2) (hy : -4<=y/\y<=4):Bd 2000 (p.1+x,p.2+y):=by
 obtain⟨a,b,c,d⟩:=h
 exact⟨by show _<=_;omega,by show _<=_;omega,by show _<=_;omega,by show _<=_;omega⟩
theorem em2 (a:Int):0<=a%2/\a%2<2:=by omega
theorem em3 (a:Int):0<=a%3/\a%3<3:=by omega
theorem bdm {n a b:Int} {c:Int} (h0:0<n) (h1:n<=2001) (h2:0<=c) (h3:c<=1000) (h4:n-1-c<=1000):Bd 1000 (a%n-c,b%n-c):=by
 have a0:=Yh a (show n≠0 by omega);have a1:=Yl a h0;have b0:=Yh b (show n≠0 by omega);have b1:=Yl b h0;exact⟨by show _<=_;omega,by show _<=_;omega,by show _<=_;omega,by show _<=_;omega⟩
theorem left3 {a b x y z:Int} (hx:0<=x) (hy:0<=y) (hz:0<=z):0<(a+1-a)*(b+1+z-b)-(b+x-b)*(a-y-a):=by
 rw [show a+1-a=1 by omega,show b+1+z-b=1+z by omega,show b+x-b=x by omega,show a-y-a = -y by omega,Int.mul_neg,Int.one_mul];have:=Q7 hx hy
 omega
section
variable {Γ:Nat->List D->Option W}
def zeq:List D->Option W:=run (tab [(29,zbl)]) zau 10
theorem ok_law_points_k13 (h29:Γ 29=zbl):∀ ds w,ds.length=3->zeq ds=some w->run Γ zau 10 ds=some w:=fun ds w _ h=>zby [(29,zbl)] (by intro p hp;rcases Zu.mp hp with rfl;exact h29) (by decide) ds w h
abbrev zgg:Ss:=(.cons (.asg 6 (.call 29 (.cons (.var 0) (.cons (.bin .add (.bin .add (.var 1) (.int 2)) (.var 5)) .nil)))) (.cons (.asg 7 (.tup (.cons (.bin .sub (.bin .mod (.var 6) (.int 7)) (.int 3)) (.cons (.bin .sub (.bin .mod (.bin .fdiv (.var 6) (.int 7)) (.int 7)) (.int 3)) .nil)))) (.cons (.iff (.cmp .eq (.var 3) (.int 1)) (.cons (.asg 7 (.tup (.cons (.bin .sub (.bin .mod (.var 6) (.int 2001)) (.int 1000)) (.cons (.bin .sub (.bin .mod (.bin .fdiv (.var 6) (.int 2001)) (.int 2001)) (.int 1000)) .nil)))) .nil) .nil) (.cons (.iff (.cmp .eq (.var 3) (.int 2)) (.cons (.asg 7 (.tup (.cons (.bin .mod (.var 6) (.int 3)) (.cons (.bin .mod (.bin .fdiv (.var 6) (.int 3)) (.int 3)) .nil)))) .nil) .nil) (.cons (.app 4 (.var 7)) .nil)))))
theorem yhn (h29:Γ 29=zbl) (ns:List Int) (s way:Int) (k:Nat) (i:Nat) (hs:s+2+(i:Int)=(k:Int)) (hk:k<=1000) (l:List D) (hl:l.length<1000) (m a b c d:Option B) :
  ∃ (p:Int×Int) (a' b':Option B),Bd 1000 p/\exs Γ zgg [some (.sh (.lst (ns.map D.int))),some (.sh (.int s)),m,some (.sh (.int way)),some (.ow l),some (.sh (.int (0+(i:Int)))),a,b,c,d]
   = some (.nx [some (.sh (.lst (ns.map D.int))),some (.sh (.int s)),m,some (.sh (.int way)),some (.ow (l++[pD p])),some (.sh (.int (0+(i:Int)))),a',b',c,d]):=by
 refine xh (zda ns k hk) fun r hr r0 r1=>?_;have hz:(l.length<PySem.sizeLine)=True:=eq_true (by rw [Y7];omega);rw [<- hs] at hr;have e0:(0:Int)+(i:Int)=(i:Int):=by omega
 rw [e0];by_cases w1:way=1
 ·subst w1;refine⟨(r%2001-1000,r/2001%2001-1000),some (.sh (.int r)),some (.sh (.tup [.int (r%2001-1000),.int (r/2001%2001-1000)])),bdm (by decide) (by decide) (by decide) (by decide) (by decide),?_⟩
  clear hs hk hl e0 r0 r1;unfold zgg pD;walk_at "evh"
 ·by_cases w2:way=2
  ·subst w2;refine⟨(r%3,r/3%3),some (.sh (.int r)),some (.sh (.tup [.int (r%3),.int (r/3%3)])),by have:=bdm (n:=3) (a:=r) (b:=r/3) (c:=0) (by decide) (by decide) (by decide) (by decide) (by decide);rw [Int.sub_zero,Int.sub_zero] at this;exact this,?_⟩
   clear hs hk hl e0 r0 r1 w1;unfold zgg pD;walk_at "evh"
  ·refine⟨(r%7-3,r/7%7-3),some (.sh (.int r)),some (.sh (.tup [.int (r%7-3),.int (r/7%7-3)])),bdm (by decide) (by decide) (by decide) (by decide) (by decide),?_⟩
   clear hs hk hl e0 r0 r1;unfold zgg pD;walk_at "evh"
theorem zxq (h29:Γ 29=zbl) (ns:List Int) (s:Nat) (way:Int) (hs:s<=500) (m c d:Option B):∀ (is:List Nat) (ps:List (Int×Int)) (o a b:Option B),(∀ i∈is,i<=400)->ps.length+is.length<=400->(∀ p∈ps,Bd 1000 p) ->
  ∃ (qs:List (Int×Int)) (o' a' b':Option B),qs.length=ps.length+is.length/\(∀ p∈qs,Bd 1000 p)/\forN (zbh (.name 5)) (exs Γ zgg) (is.map fun (i:Nat)=>D.int (0+(i:Int))) [some (.sh (.lst (ns.map D.int))),some (.sh (.int (s:Int))),m,some (.sh (.int way)),some (.ow (ps.map pD)),o,a,b,c,d]
   = some (.nx [some (.sh (.lst (ns.map D.int))),some (.sh (.int (s:Int))),m,some (.sh (.int way)),some (.ow (qs.map pD)),o',a',b',c,d])
 | [],ps,o,a,b,_,_,hp=>⟨ps,o,a,b,rfl,hp,rfl⟩
 | i::is,ps,o,a,b,hi,hl,hp=>by
  rw [Zk] at hl;refine xn (yhn h29 ns (s:Int) way (s+2+i) i (by omega) (by have:=hi i (.head _);omega) (ps.map pD) (by rw [Zd];omega) m a b c d) fun p a1 b1 hb he=>?_;obtain⟨qs,o',a',b',q1,q2,q3⟩:=zxq h29 ns s way hs m c d is (ps++[p]) (some (.sh (.int (0+(i:Int))))) a1 b1 (fun j hj=>hi j (.tail _ hj)) (by rw [Zs];simp only [Zk,Ym];omega) (fun x hx=>by
   rcases Y6.mp hx with hx | hx
   ·exact hp x hx
   ·rw [Zu.mp hx];exact hb)
  refine⟨qs,o',a',b',by rw [q1,Zs,Zk];simp only [Zk,Ym];omega,q2,?_⟩
  rw [Zz];unfold forN;simp only [zfj,zjw,zjx,Y5];rw [he];rw [Ys] at q3;exact q3
theorem zst {α:Type} {l:List α} {k N:Nat} (hl:l.length=N) (h1:1<=k) (h2:k<=N):L2.atI l (-(k:Int))=l[N-k]?:=by
 rw [zqa (by omega) (by omega),hl,show (-(k:Int)+(N:Int)).toNat=N-k by omega]
theorem zrw {k N:Nat} (h1:1<=k) (h2:k<=N):L2.ixN N (-(k:Int))=some (N-k):=by
 unfold L2.ixN;rw [if_neg (by omega),if_pos (by omega),show (-(k:Int)+(N:Int)).toNat=N-k by omega]
theorem yij (ns:List Int) (s m:Nat) (hs:s<=500) (hm:3<=m) (hm2:m<=100):∃ ps:List (Int×Int),zeq [.lst (ns.map D.int),.int (s:Int),.int (m:Int)]=some (.new (ps.map pD))/\ps.length<=m/\Pts ps:=by
 unfold zeq;generalize hΓ:tab [(29,zbl)]=Γ;have h29:Γ 29=zbl:=by rw [<- hΓ];rfl
 refine xh (zda ns s (by omega)) fun r hr r0 r1=>?_;refine xh (zda ns (s+1) (by omega)) fun t ht t0 t1=>?_;have e1:(((s+1:Nat)):Int)=(s:Int)+1:=by omega
 rw [e1] at ht;have m0:(0:Int)<(m:Int)-2:=by omega
 have u0:=Yh t (show (m:Int)-2≠0 by omega);have u1:=Yl t m0;generalize hN:(3+t%((m:Int)-2)).toNat=N;have N3:3<=N:=by omega
 have Nm:N<=m:=by omega
 have N2:2<=N:=Vc N3;have N1:1<=N:=Vc N2;obtain⟨qs,o',a',b',q1,q2,q3⟩:=zxq (Γ:=Γ) h29 ns s (r%4) hs (some (.sh (.int (m:Int)))) none none (List.range N) [] none none none (fun i hi=>by have:=Qd.mp hi;omega) (by rw [Ym,Qw];omega) (fun p hp=>by cases hp)
 rw [Ym,Qw,Y8] at q1;have hl:(qs.map pD).length=N:=by rw [Zd,q1]
 obtain⟨p0,hp0⟩:∃ p,qs[0]? = some p:=⟨_,Ze (by omega)⟩
 obtain⟨p1,hp1⟩:∃ p,qs[N-2]? = some p:=⟨_,Ze (by omega)⟩
 obtain⟨p2,hp2⟩:∃ p,qs[N-1]? = some p:=⟨_,Ze (by omega)⟩
 have A0:L2.atI (qs.map pD) 0=some (pD p0):=by
  rw [zgj (Ux _) (by omega),Zj];show ((qs[0]?).map pD)=_;rw [hp0];rfl
 have A1:L2.atI (qs.map pD) (-2)=some (pD p1):=by
  rw [show (-2:Int) = -((2:Nat):Int) from rfl,zst hl (by decide) N2,Zj,hp1];rfl
 have I1:L2.ixN (qs.map pD).length (-2)=some (N-2):=by
  rw [hl];exact zrw (k:=2) (by decide) N2
 have d0:=q2 p0 (Zw hp0);have d1:=q2 p1 (Zw hp1);have d2:=q2 p2 (Zw hp2);generalize hx1:p1.2%2=x1;generalize hx2:p2.1%2=x2;generalize hx3:p2.2%3=x3;have y1:0<=x1/\x1<2:=by rw [<- hx1];exact em2 _
 have y2:0<=x2/\x2<2:=by rw [<- hx2];exact em2 _
 have y3:0<=x3/\x3<3:=by rw [<- hx3];exact em3 _
 have hl2:((qs.map pD).set (N-2) (.tup [.int (p0.1+1),.int (p0.2+x1)])).length=N:=by rw [Wh,hl]
 have A2:L2.atI ((qs.map pD).set (N-2) (.tup [.int (p0.1+1),.int (p0.2+x1)])) (-1)=some (pD p2):=by
  rw [show (-1:Int) = -((1:Nat):Int) from rfl,zst hl2 (by decide) N1,Yp (by omega),Zj,hp2];rfl
 have I2:L2.ixN ((qs.map pD).set (N-2) (.tup [.int (p0.1+1),.int (p0.2+x1)])).length (-1)=some (N-1):=by
  rw [hl2];exact zrw (k:=1) (by decide) N1
 refine⟨(qs.set (N-2) (p0.1+1,p0.2+x1)).set (N-1) (p0.1-x2,p0.2+1+x3),?_,by rw [Wh,Wh];omega,⟨by rw [Wh,Wh];omega,fun p hp=>?_,p0,(p0.1+1,p0.2+x1),(p0.1-x2,p0.2+1+x3),?_,?_,?_,?_⟩⟩
 ·rw [List.map_set,List.map_set];have hr4:(-4611686018427387904<=3+t%((m:Int)-2)/\3+t%((m:Int)-2)<4611686018427387904)=True:=eq_true (by omega);have mz:((m:Int)-2=0)=False:=eq_false (by omega);have fm:t.fmod ((m:Int)-2)=t%((m:Int)-2):=zlv m0;have i0:=@pD_ix0;have i1:=@pD_ix1;have rg:zbk 0 N=(List.range N).map fun (i:Nat)=>D.int (0+(i:Int)):=rfl
  have bt:zbh (.tup [8,9]) (pD p0)=zdx [8,9] [.int p0.1,.int p0.2]:=rfl;have lfp:=ycy p0;rw [W3] at q3;unfold zgg at q3;clear hΓ r0 r1 t0 t1 e1 m0 u0 u1 N1 N2 N3 Nm q2 q1 hl hp0 hp1 hp2 d0 d1 d2 y1 y2 y3 hl2 hs hm hm2;unfold zau;walk_at "evh"
  rfl
 ·rcases Vy hp with hp | hp
  ·rcases Vy hp with hp | hp
   ·exact (q2 p hp).up
   ·subst hp;clear q3 A0 A1 A2 I1 I2 hr ht hl2 hp0 hp1 hp2 q2;exact d0.nx (by decide) (by omega)
  ·subst hp;clear q3 A0 A1 A2 I1 I2 hr ht hl2 hp0 hp1 hp2 q2;have:=d0.nx (x:=-x2) (y:=1+x3) (by omega) (by omega)
   rw [<- Int.add_assoc] at this;exact this
 ·refine Zw (i:=0) ?_;rw [Yp (by omega),Yp (by omega),hp0]
 ·refine Zw (i:=N-2) ?_;rw [Yp (by omega),Y9 (by omega)]
 ·refine Zw (i:=N-1) ?_;rw [Y9 (by rw [Wh];omega)]
 ·exact left3 y1.1 y2.1 y3.1
end
open Sf
def kP (p:Int×Int):List Int:=[p.1,p.2]
def pK:List Int->Int×Int
 | [a,b]=>(a,b)
 | _=>(0,0)
def zbx (ps:List (Int×Int)):List (Int×Int):=(ssK (ps.map kP)).map pK
theorem zrv:∀ ps:List (Int×Int),zlo (ps.map pD)=some (ps.map kP)
 | []=>rfl
 | p::ps=>by
  rw [Zz,Zz];unfold zlo;rw [zrv ps];rfl
theorem zrq {ps:List (Int×Int)} {k:List Int} (h:k∈ssK (ps.map kP)):∃ p∈ps,k=kP p:=by
 refine xa (Z1.mp (ssK_mem.mp h)) fun p hp e=>?_;exact⟨p,hp,e.symm⟩
theorem dK_pts (ps:List (Int×Int)):(ssK (ps.map kP)).map dK=(zbx ps).map pD:=by
 unfold zbx;rw [Wv];refine Gz fun k hk=>?_;refine xa (zrq hk) fun p _ e=>?_;subst e;rfl
theorem fm_ss {ps:List (Int×Int)} (h:ps.length<=63):fmW .ss [.lst (ps.map pD)]=some (.new ((zbx ps).map pD)):=by
 show (zlo (ps.map pD)).bind _=_;rw [zrv,Yt,if_pos (by rw [Zd];exact h),dK_pts]
theorem fm_rev {l:List D}:fmW .rev [.lst l]=some (.new l.reverse):=rfl
theorem sortP_mem {ps:List (Int×Int)} {x:Int×Int}:x∈zbx ps↔x∈ps:=by
 unfold zbx;rw [Z1];constructor
 ·rintro⟨k,hk,e⟩
  refine xa (zrq hk) fun p hp e2=>?_;subst e2;rw [<- e];exact hp
 ·intro h;exact⟨kP x,ssK_mem.mpr (Z7 h),rfl⟩
theorem zvr (ps:List (Int×Int)):(zbx ps).Pairwise Hu.lt:=by
 unfold zbx;have h:=zpc (l:=ps.map kP) (fun x hx=>by
  refine xa (Z1.mp hx) fun p _ e=>?_;rw [<- e];rfl)
 refine W4.mpr (h.imp_of_mem fun {a b} ha hb hab=>?_);refine xa (zrq ha) fun p _ e=>?_;refine xa (zrq hb) fun q _ e2=>?_;subst e;subst e2;simp only [kP,ltK,J0,Zq,decide_eq_true_eq] at hab;exact hab
theorem zvq:∀ l:List (List Int),(ssK l).length<=l.length
 | []=>Zg _
 | k::l=>by
  have h:=zvq l;have g:∀ m:List (List Int),(insK k m).length<=m.length+1:=fun m=>by
   induction m with
   | nil=>exact Zg _
   | cons x m ih=>
    unfold insK;split
    ·simp
    ·split
     ·simp
     ·rw [Zk,Zk];omega
  have:=g (ssK l)
  unfold ssK;rw [Zk];omega
theorem zmy (ps:List (Int×Int)):(zbx ps).length<=ps.length:=by
 unfold zbx;rw [Zd];have:=zvq (ps.map kP)
 rw [Zd] at this;exact this
theorem ygp (l:List D):cutD l none (some (-1))=l.dropLast:=by
 unfold cutD HT.sIx;rw [Qs];simp only [Jc,Uf];congr 1
 split <;> omega
abbrev zdh:Int:=10000000000000000000000000000000000000000
section
variable {Γ:Nat->List D->Option W}
def zfz:List D->Option W:=run (tab []) zba 4
theorem ok_law_turn_k13:∀ ds w,ds.length=3->zfz ds=some w->run Γ zba 4 ds=some w:=fun ds w _ h=>zby [] (fun p hp=>by cases hp) (by decide) ds w h
theorem yao {a b c:Int×Int} (ha:Bd zdh a) (hb:Bd zdh b) (hc:Bd zdh c):zfz [pD a,pD b,pD c]=some (.val (.int (Hu.o3 a b c))):=by
 obtain⟨a1,a2,a3,a4⟩:=ha
 obtain⟨b1,b2,b3,b4⟩:=hb
 obtain⟨c1,c2,c3,c4⟩:=hc
 obtain⟨ax,ay⟩:=a
 obtain⟨bx,by'⟩:=b
 obtain⟨cx,cy⟩:=c
 simp only [zdh] at a1 a2 a3 a4 b1 b2 b3 b4 c1 c2 c3 c4;have m1:zap (bx-ax) (cy-ay)=true:=zah (by omega) (by omega) (by omega) (by omega);have m2:zap (by'-ay) (cx-ax)=true:=zah (by omega) (by omega) (by omega) (by omega);clear a1 a2 a3 a4 b1 b2 b3 b4 c1 c2 c3 c4;unfold zfz zba pD Hu.o3 Hu.cr Hu.sb;walk_at "evh"
def zpk:List D->Option W:=run (tab [(45,zfz)]) zbb 5
theorem ok_law_ring_k13 (h45:Γ 45=zfz):∀ ds w,ds.length=1->zpk ds=some w->run Γ zbb 5 ds=some w:=fun ds w _ h=>zby [(45,zfz)] (by intro p hp;rcases Zu.mp hp with rfl;exact h45) (by decide) ds w h
abbrev zcs:E:=(.and (.cmp .gt (.bi .len (.cons (.var 3) .nil)) (.int 1)) (.cmp .le (.call 45 (.cons (.ix (.var 3) (.neg (.int 2))) (.cons (.ix (.var 3) (.neg (.int 1))) (.cons (.var 4) .nil)))) (.int 0)))
abbrev zhh:Ss:=(.cons (.whl zcs (.cons (.pop 3) .nil)) (.cons (.app 3 (.var 4)) .nil))
theorem at_m1 {α:Type} {l:List α} {x:α}:L2.atI (l++[x]) (-1)=some x:=by
 rw [zqa (by decide) (by rw [Zs,Zk,Ym];omega),Zs,Zk,Ym,show ((-1:Int)+((l.length+(0+1):Nat):Int)).toNat=l.length by omega,Zx (Zg _),Qu];rfl
theorem at_m2 {α:Type} {l:List α} {x y:α}:L2.atI (l++[x]++[y]) (-2)=some x:=by
 have e:(l++[x]++[y]).length=l.length+2:=by simp
 rw [zqa (by decide) (by omega),e,show ((-2:Int)+((l.length+2:Nat):Int)).toNat=l.length by omega,Wm,Zx (Zg _),Qu];rfl
theorem zis (h45:Γ 45=zfz) {p:Int×Int} (hp:Bd zdh p) (s f r:Option B):∀ st:List (Int×Int),(∀ q∈st,Bd zdh q)->evB Γ zcs [s,f,r,some (.ow (st.reverse.map pD)),some (.sh (pD p))]=some (match st with
  | b::a::_=>decide (Hu.o3 a b p<=0)
  | _=>false)
 | [],_=>by
  unfold zcs;simp only [Vf,W3];walk_at "evh"
 | [a],_=>by
  unfold zcs;simp only [We,Vf,Wo,Zz,W3];walk_at "evh"
 | b::a::st,hb=>by
  have t:=yao (hb a (.tail _ (.head _))) (hb b (.head _)) hp;have m1:L2.atI (st.reverse.map pD++[pD a]++[pD b]) (-1)=some (pD b):=at_m1;have m2:L2.atI (st.reverse.map pD++[pD a]++[pD b]) (-2)=some (pD a):=at_m2;have hl:decide ((1:Int)<((st.reverse.map pD++[pD a]++[pD b]).length:Int))=true:=decide_eq_true (by simp;omega);simp only [We,Ys,Zz,W3];generalize st.reverse.map pD++[pD a]++[pD b]=L at m1 m2 hl |-;unfold zcs;clear hb hp;walk_at "evh"
theorem zjs (h45:Γ 45=zfz) {p:Int×Int} (hp:Bd zdh p) (s f r:Option B):∀ st:List (Int×Int),(∀ q∈st,Bd zdh q)->zag (evB Γ zcs) (exs Γ (.cons (.pop 3) .nil)) (st.length+1) [s,f,r,some (.ow (st.reverse.map pD)),some (.sh (pD p))]=some (.nx [s,f,r,some (.ow ((Hu.popw p st).reverse.map pD)),some (.sh (pD p))])
 | [],hb=>by
  unfold zag;rw [zis h45 hp s f r [] hb];rfl
 | [a],hb=>by
  unfold zag;rw [zis h45 hp s f r [a] hb];rfl
 | b::a::st,hb=>by
  unfold zag;have c:=zis h45 hp s f r (b::a::st) hb;dsimp only at c;unfold Hu.popw;by_cases q:Hu.o3 a b p<=0
  ·rw [decide_eq_true q] at c;rw [c,if_pos q];have ih:=zjs h45 hp s f r (a::st) fun x hx=>hb x (.tail _ hx)
   have e:exs Γ (.cons (.pop 3) .nil) [s,f,r,some (.ow ((b::a::st).reverse.map pD)),some (.sh (pD p))]=some (.nx [s,f,r,some (.ow ((a::st).reverse.map pD)),some (.sh (pD p))]):=by
    have ne:((b::a::st).reverse.map pD=[])=False:=eq_false (by simp);have dl:((b::a::st).reverse.map pD).dropLast=(a::st).reverse.map pD:=by
     rw [We (a:=b),Ys,Zz,W3,Gu]
    generalize (b::a::st).reverse.map pD=L at ne dl |-;clear ih hb;walk_at "evh"
   simp only [e];exact ih
  ·rw [decide_eq_false q] at c;rw [c,if_neg q]
theorem zvo (h45:Γ 45=zfz) {p:Int×Int} (hp:Bd zdh p) (s f r:Option B) (st:List (Int×Int)) (hb:∀ q∈st,Bd zdh q) (hl:(Hu.popw p st).length<1000):exs Γ zhh [s,f,r,some (.ow (st.reverse.map pD)),some (.sh (pD p))]=some (.nx [s,f,r,some (.ow ((p::Hu.popw p st).reverse.map pD)),some (.sh (pD p))]):=by
 have w:=zdl (zjs h45 hp s f r st hb);have hz:(((Hu.popw p st).reverse.map pD).length<PySem.sizeLine)=True:=eq_true (by rw [Y7,Zd,Y4];omega);have e:(p::Hu.popw p st).reverse.map pD=(Hu.popw p st).reverse.map pD++[pD p]:=by rw [We,Ys];rfl
 rw [e];have lfp:=ycy p;unfold zhh;generalize (Hu.popw p st).reverse.map pD=L at hz w |-;generalize st.reverse.map pD=L0 at w |-;unfold zcs at w |-;clear hl e hb hp;walk_at "evh"
theorem zlc (p:Int×Int):∀ st:List (Int×Int),(Hu.popw p st).length<=st.length
 | []=>Zg _
 | [_]=>Zg _
 | b::a::st=>by
  unfold Hu.popw;split
  ·have:=zlc p (a::st)
   rw [Zk (a:=b)];omega
  ·exact Zg _
theorem zrf {p x:Int×Int}:∀ {st:List (Int×Int)},x∈Hu.popw p st->x∈st
 | [],h=>h
 | [_],h=>h
 | b::a::st,h=>by
  unfold Hu.popw at h;split at h
  ·exact .tail _ (zrf h)
  ·exact h
theorem zio (h45:Γ 45=zfz) (s f r:Option B):∀ (l st:List (Int×Int)) (o:Option B),(∀ q∈l,Bd zdh q)->(∀ q∈st,Bd zdh q)->l.length+st.length<900 ->
  ∃ o',forN (zbh (.name 4)) (exs Γ zhh) (l.map pD) [s,f,r,some (.ow (st.reverse.map pD)),o]=some (.nx [s,f,r,some (.ow ((Hu.bent st l).reverse.map pD)),o'])
 | [],st,o,_,_,_=>⟨o,rfl⟩
 | p::l,st,o,hb,hs,hl=>by
  rw [Zk] at hl;have hp:=hb p (.head _);have pl:=zlc p st;obtain⟨o',q⟩:=zio h45 s f r l (p::Hu.popw p st) (some (.sh (pD p))) (fun x hx=>hb x (.tail _ hx)) (fun x hx=>by
   rcases Zf.mp hx with e | hx
   ·rw [e];exact hp
   ·exact hs x (zrf hx)) (by rw [Zk];omega)
  refine⟨o',?_⟩
  rw [Zz];unfold forN;simp only [zfj,zjw,zjx,Y5];rw [zvo h45 hp s f r st hs (by omega)];exact q
theorem zfl:∀ (l st:List (Int×Int)),(Hu.bent st l).length<=st.length+l.length
 | [],st=>Zg _
 | p::l,st=>by
  have h:=zfl l (p::Hu.popw p st);have:=zlc p st
  unfold Hu.bent;rw [Zk] at h |-;omega
theorem frz5 {a b c d e:Option B}:frz [a,b,c,d,e]=[a.map fun x=>.sh x.d,b.map fun x=>.sh x.d,c.map fun x=>.sh x.d,d.map fun x=>.sh x.d,e.map fun x=>.sh x.d]:=rfl
theorem zfa (l:List (Int×Int)):(l.map pD).dropLast=l.dropLast.map pD:=by
 rw [Qs,Qs,Zd,V5]
theorem yca {ps:List (Int×Int)} (hl:ps.length<=63) (hb:∀ q∈ps,Bd zdh q):zpk [.lst (ps.map pD)]=some (.new ((Hu.ring (zbx ps)).map pD)):=by
 unfold zpk;generalize hΓ:tab [(45,zfz)]=Γ;have h45:Γ 45=zfz:=by rw [<- hΓ];rfl
 clear hΓ;have f1:=fm_ss hl;have f2:=fm_rev (l:=(zbx ps).map pD);have sl:=zmy ps;have sb:∀ q∈zbx ps,Bd zdh q:=fun q hq=>hb q (sortP_mem.mp hq)
 rw [<- List.map_reverse] at f2;generalize zbx ps=so at f1 f2 sl sb |-;have g1:=zio (Γ:=Γ) h45 (some (.sh (.lst (ps.map pD)))) (some (.sh (.lst []))) (some (.sh (.lst (so.map pD)))) so [] none sb (fun q hq=>by cases hq) (by rw [Ym];omega);refine xb g1 fun o1 g1=>?_;have l1:=zfl so [];have l2:=zfl so.reverse [];rw [Ym,Y8] at l1 l2;rw [Y4] at l2;have e1:=ygp ((Hu.bent [] so).reverse.map pD);rw [zfa] at e1;have e2:=ygp ((Hu.bent [] so.reverse).reverse.map pD);rw [zfa] at e2;obtain⟨o2,g2⟩:=zio (Γ:=Γ) h45 (some (.sh (.lst (ps.map pD)))) (some (.ow ((Hu.bent [] so).reverse.dropLast.map pD))) (some (.sh (.lst (so.reverse.map pD)))) so.reverse [] o1 (fun q hq=>sb q (Jr.mp hq)) (fun q hq=>by cases hq) (by rw [Ym,Y4];omega)
 unfold Hu.ring;rw [Ys];have z1:([]++(Hu.bent [] so).reverse.dropLast.map pD).length<=PySem.sizeLine:=by
  rw [Y7,Wo,Zd,W2,Y4];omega
 have z2:((Hu.bent [] so).reverse.dropLast.map pD).length+((Hu.bent [] so.reverse).reverse.dropLast.map pD).length<=PySem.sizeLine:=by
  rw [Y7,Zd,W2,Y4,Zd,W2,Y4];omega
 have c1:opW .add (.lst []) (.lst ((Hu.bent [] so).reverse.dropLast.map pD))=some (.new ((Hu.bent [] so).reverse.dropLast.map pD)):=by
  show (if _ then some (W.new _) else none)=_;rw [if_pos (by rw [Ym];rw [Wo] at z1;omega),Wo]
 have c2:opW .add (.lst ((Hu.bent [] so).reverse.dropLast.map pD)) (.lst ((Hu.bent [] so.reverse).reverse.dropLast.map pD))=some (.new ((Hu.bent [] so).reverse.dropLast.map pD++(Hu.bent [] so.reverse).reverse.dropLast.map pD)):=by
  show (if _ then some (W.new _) else none)=_;rw [if_pos z2]
 have lfq:∀ l:List (Int×Int),lfL (l.map pD)=true:=fun l=>by
  induction l with
  | nil=>rfl
  | cons p l ih=>rw [Zz];unfold lfL;rw [ycy,ih];rfl
 have q1:=lfq ((Hu.bent [] so).reverse.dropLast);have q2:lfL ((Hu.bent [] so).reverse.dropLast.map pD++(Hu.bent [] so.reverse).reverse.dropLast.map pD)=true:=by
  rw [<- Ys];exact lfq _
 have q3:=lfq ((Hu.bent [] so.reverse).reverse.dropLast);simp only [Vf,W3] at g1 g2;unfold zbb;have fz:=@frz5;generalize (Hu.bent [] so).reverse.dropLast.map pD=R1 at *;generalize (Hu.bent [] so.reverse).reverse.dropLast.map pD=R2 at *;generalize (Hu.bent [] so).reverse.map pD=T1 at *;generalize (Hu.bent [] so.reverse).reverse.map pD=T2 at *;unfold zhh zcs at g1 g2;have ex1:∀ (o:Option B) (b3:Option B),exs Γ (.cons (.asg 3 (.lst .nil)) (.cons (.frr (.name 4) (.seqV 2) (.cons (.whl (.and (.cmp .gt (.bi .len (.cons (.var 3) .nil)) (.int 1)) (.cmp .le (.call 45 (.cons (.ix (.var 3) (.neg (.int 2))) (.cons (.ix (.var 3) (.neg (.int 1))) (.cons (.var 4) .nil)))) (.int 0))) (.cons (.pop 3) .nil)) (.cons (.app 3 (.var 4)) .nil))) (.cons (.asg 1 (.bin .add (.var 1) (.sl (.var 3) .non (.som (.neg (.int 1)))))) .nil))) [some (.sh (.lst (ps.map pD))),some (.sh (.lst [])),some (.sh (.lst (so.map pD))),b3,none]=some (.nx [some (.sh (.lst (ps.map pD))),some (.ow R1),some (.sh (.lst (so.map pD))),some (.ow T1),o1]):=by
  intro o b3;clear g2 f1 f2 sl sb l1 l2 e2 z1 z2 c2 lfq q2 q3 fz hb hl;walk_at "evh"
 have ex2:exs Γ (.cons (.asg 3 (.lst .nil)) (.cons (.frr (.name 4) (.seqV 2) (.cons (.whl (.and (.cmp .gt (.bi .len (.cons (.var 3) .nil)) (.int 1)) (.cmp .le (.call 45 (.cons (.ix (.var 3) (.neg (.int 2))) (.cons (.ix (.var 3) (.neg (.int 1))) (.cons (.var 4) .nil)))) (.int 0))) (.cons (.pop 3) .nil)) (.cons (.app 3 (.var 4)) .nil))) (.cons (.asg 1 (.bin .add (.var 1) (.sl (.var 3) .non (.som (.neg (.int 1)))))) .nil))) [some (.sh (.lst (ps.map pD))),some (.ow R1),some (.sh (.lst (so.reverse.map pD))),some (.ow T1),o1]=some (.nx [some (.sh (.lst (ps.map pD))),some (.ow (R1++R2)),some (.sh (.lst (so.reverse.map pD))),some (.ow T2),o2]):=by
  clear g1 f1 f2 sl sb l1 l2 e1 z1 z2 c1 lfq q1 q3 fz hb hl ex1;walk_at "evh"
 have ex1':=ex1 none none;clear g1 g2 sl sb l1 l2 e1 e2 z1 z2 c1 c2 lfq q1 q2 q3 hb hl ex1;walk_at "evh"
 unfold forN;walk_at "evh"
 unfold forN;walk_at "evh"
 unfold forN;walk_at "evh"
end
open Sf
def stD (q:Rat×Rat):D:=.tup [fr q.1,fr q.2]
theorem lf_stD (q:Rat×Rat):lf (stD q)=true:=rfl
def spot (b f s:Int) (p:Int×Int):Rat×Rat:=(Rat.divInt (p.1*b+f) s,Rat.divInt (p.2*b-2*f) s)
structure ShapeBy (m:Nat) (l:List (Rat×Rat)) (ps:List (Int×Int)) (b f s:Int):Prop where
 pts:Pts ps
 len:ps.length<=m
 b0:1<=b
 b1:b<=1000000000
 f0 : -1000000000000000000<=f
 f1:f<=1000000000000000000
 s0:1<=s
 s1:s<=1000000000
 eq:l=(Hu.ring (zbx ps)).map (spot b f s)
theorem zzw {a b c:D} {i:Int} (h0:0<=i) (h1:i<3):∃ v,L2.atI [a,b,c] i=some v/\(v=a\/v=b\/v=c):=by
 have:i=0\/i=1\/i=2:=by omega
 rcases this with e | e | e <;> subst e
 ·exact⟨a,rfl,.inl rfl⟩
 ·exact⟨b,rfl,.inr (.inl rfl)⟩
 ·exact⟨c,rfl,.inr (.inr rfl)⟩
theorem zqb {a b:D} {i:Int} (h0:0<=i) (h1:i<2):∃ v,L2.atI [a,b] i=some v/\(v=a\/v=b):=by
 have:i=0\/i=1:=by omega
 rcases this with e | e <;> subst e
 ·exact⟨a,rfl,.inl rfl⟩
 ·exact⟨b,rfl,.inr rfl⟩
theorem yga:∀ l:List (Int×Int),lfL (l.map pD)=true
 | []=>rfl
 | p::l=>by rw [Zz];unfold lfL;rw [ycy,yga l];rfl
theorem zgc:∀ l:List (Rat×Rat),lfL (l.map stD)=true
 | []=>rfl
 | p::l=>by rw [Zz];unfold lfL;rw [lf_stD,zgc l];rfl
section
variable {Γ:Nat->List D->Option W}
theorem zfd {t b:Int} (h:b≠0) (hb:b.natAbs<2^9000):zbu [.int t,.int b]=some (.val (fr (Rat.divInt t b))):=by
 unfold zbu;simp only
 rw [if_pos ⟨h,hb⟩]
abbrev zgv:List (Nat×(List D->Option W)):=[(46,zpk),(34,zeq),(29,zbl),(2,zcj),(13,zbu)]
def znv:List D->Option W:=run (tab zgv) zaf 8
theorem ok_law_shape_k13 (h46:Γ 46=zpk) (h34:Γ 34=zeq) (h29:Γ 29=zbl) (h2:Γ 2=zcj) (h13:Γ 13=zbu):∀ ds w,ds.length=3->znv ds=some w->run Γ zaf 8 ds=some w:=fun ds w _ h=>zby zgv (by
 intro p hp;simp only [zgv,Zf,Wd,or_false] at hp;rcases hp with rfl | rfl | rfl | rfl | rfl <;> assumption) (by decide) ds w h
theorem zre (p:Hu.Pt):∀ (l:List Hu.Pt),∀ c∈Hu.popw p l,c∈l
 | [],c,h=>h
 | [_],c,h=>h
 | b::a::r,c,h=>by
  unfold Hu.popw at h;split at h
  ·exact .tail _ (zre p (a::r) c h)
  ·exact h
theorem zme:∀ (l st:List Hu.Pt),∀ c∈Hu.bent st l,c∈st\/c∈l
 | [],st,c,h=>.inl h
 | p::l,st,c,h=>by
  rcases zme l _ c h with q | q
  ·rcases Zf.mp q with q | q
   ·exact .inr (q ▸ .head _)
   ·exact .inl (zre p st c q)
  ·exact .inr (.tail _ q)
theorem zqx {l:List Hu.Pt}:∀ c∈Hu.ring l,c∈l:=fun c h=>by
 unfold Hu.ring at h;rcases Y6.mp h with q | q
 ·have:=Gs _ q
  rw [Jr] at this;rcases zme _ _ _ this with q | q
  ·cases q
  ·exact q
 ·have:=Gs _ q
  rw [Jr] at this;rcases zme _ _ _ this with q | q
  ·cases q
  ·exact Jr.mp q
theorem m9 (a:Int):1<=1+a%9/\1+a%9<=1000000000:=by omega
theorem mE9 (a:Int):1<=1+a%1000000000/\1+a%1000000000<=1000000000:=by omega
theorem mfar (a:Int) : -1000000000000000000<=a%2000000000000000000-1000000000000000000/\a%2000000000000000000-1000000000000000000<=1000000000000000000:=by omega
theorem mk2 {x b:Int} (h0 : -2000<=x) (h1:x<=2000) (h2:1<=b) (h3:b<=1000000000):zap x b=true:=zah (by omega) (by omega) (by omega) (by omega)
theorem mkf {f:Int} (h0 : -1000000000000000000<=f) (h1:f<=1000000000000000000):zap 2 f=true:=zah (by decide) (by decide) (by omega) (by omega)
theorem e9 {s:Int} (h0:1<=s) (h1:s<=1000000000):s≠0/\s.natAbs<2^9000:=by
 have:(1000000000:Nat)<2^9000:=by decide +kernel
 exact⟨by omega,by omega⟩
theorem Bd.big {p:Int×Int} (h:Bd 2000 p):Bd zdh p:=by
 obtain⟨a,b,c,d⟩:=h
 exact⟨by simp only [zdh];omega,by simp only [zdh];omega,by simp only [zdh];omega,by simp only [zdh];omega⟩
theorem zjz (ps:List (Int×Int)):(Hu.ring (zbx ps)).length<=2*ps.length:=by
 unfold Hu.ring;have l1:=zfl (zbx ps) [];have l2:=zfl (zbx ps).reverse [];rw [Y4] at l2;have l3:=zmy ps;rw [Zs,W2,W2,Y4,Y4];rw [Ym] at l1 l2;omega
abbrev cSh:E:=(.comp (.tup (.cons (.call 13 (.cons (.bin .add (.bin .mul (.var 1) (.var 3)) (.var 4)) (.cons (.var 5) .nil))) (.cons (.call 13 (.cons (.bin .sub (.bin .mul (.var 2) (.var 3)) (.bin .mul (.int 2) (.var 4))) (.cons (.var 5) .nil))) .nil))) (.tup [1,2]) (.seqV 3) 3 [6,7,5] .non)
theorem zvv {Ri Po Mi Ce:List D->Option W} (h46:Γ 46=Ri) (h34:Γ 34=Po) (h29:Γ 29=Mi) (h2:Γ 2=Ce) {NS RD PD O:List D} {s m t c0 c1 c2 sh by' far:Int} (hps:Po [.lst NS,.int s,.int m]=some (.new PD)) (hr:Ri [.lst PD]=some (.new RD)) (ht:Mi [.lst NS,.int (s+1)]=some (.val (.int t))) (hc0:Ce [.lst NS,.int s]=some (.val (.int c0))) (hc1:Ce [.lst NS,.int (s+1)]=some (.val (.int c1))) (hc2:Ce [.lst NS,.int (s+2)]=some (.val (.int c2)))
  (g1:L2.atI [D.int 1,D.int (1+t/64%9),D.int (1+c0%1000000000)] (t/16%3)=some (.int sh)) (g2:L2.atI [D.int 1,D.int (1+c1%1000000000)] (t/1024%2)=some (.int by')) (g3:L2.atI [D.int 0,D.int (c2%2000000000000000000-1000000000000000000)] (t/2048%2)=some (.int far)) (lfR:lfL RD=true)
  (hcomp:ev Γ cSh [some (.lst NS),some (.int s),some (.int m),some (.lst RD),some (.int t),some (.int sh),some (.int by'),some (.int far)]=some (.new O)):run Γ zaf 8 [.lst NS,.int s,.int m]=some (.new O):=by
 have m1:zap 2 1000000000000000000=true:=zah (by decide) (by decide) (by decide) (by decide);unfold cSh at hcomp;unfold zaf;rw [run_eq];generalize hce:E.comp _ _ _ _ _ _=ce at *;clear hce;walk_at "evh"
theorem zia (ns:List Int) (s m:Nat) (hs:s<=400) (hm:3<=m) (hm2:m<=63):∃ l ps b f sh,ShapeBy m l ps b f sh/\znv [.lst (ns.map D.int),.int (s:Int),.int (m:Int)]=some (.new (l.map stD)):=by
 refine xh (yij ns s m (by omega) hm (by omega)) fun ps hps pl P=>?_;have hr:=yca (ps:=ps) (by omega) (fun q hq=>(P.bd q hq).big);have hR:∀ p∈Hu.ring (zbx ps),Bd 2000 p:=fun p hp=>by
  exact P.bd p (sortP_mem.mp (zqx p hp))
 have hRl:(Hu.ring (zbx ps)).length<=200:=Yn (zjz ps) (by omega);generalize hRR:Hu.ring (zbx ps)=R at hr hR hRl;refine xh (zda ns (s+1) (by omega)) fun t ht t0 t1=>?_;refine xb (zhg (ns:=ns) (k:=s)) fun c0 hc0=>?_;refine xb (zhg (ns:=ns) (k:=s+1)) fun c1 hc1=>?_;refine xb (zhg (ns:=ns) (k:=s+2)) fun c2 hc2=>?_;have e1:(((s+1:Nat)):Int)=(s:Int)+1:=Int.natCast_add s 1;have e2:(((s+2:Nat)):Int)=(s:Int)+2:=Int.natCast_add s 2;rw [e1] at ht hc1;rw [e2] at hc2;refine xa (zzw (a:=D.int 1) (b:=D.int (1+t/64%9)) (c:=D.int (1+c0%1000000000)) (i:=t/16%3) (Yh _ (by decide)) (Yl _ (by decide))) fun v1 g1 g1'=>?_;refine xa (zqb (a:=D.int 1) (b:=D.int (1+c1%1000000000)) (i:=t/1024%2) (Yh _ (by decide)) (Yl _ (by decide))) fun v2 g2 g2'=>?_;refine xa (zqb (a:=D.int 0) (b:=D.int (c2%2000000000000000000-1000000000000000000)) (i:=t/2048%2) (Yh _ (by decide)) (Yl _ (by decide))) fun v3 g3 g3'=>?_;obtain⟨sh,hsh,s0,s1⟩:∃ x:Int,v1=.int x/\1<=x/\x<=1000000000:=by
  rcases g1' with e | e | e
  ·exact⟨_,e,by decide,by decide⟩
  ·exact⟨_,e,m9 _⟩
  ·exact⟨_,e,mE9 _⟩
 obtain⟨by',hby,b0,b1⟩:∃ x:Int,v2=.int x/\1<=x/\x<=1000000000:=by
  rcases g2' with e | e
  ·exact⟨_,e,by decide,by decide⟩
  ·exact⟨_,e,mE9 _⟩
 obtain⟨far,hfar,f0,f1⟩:∃ x:Int,v3=.int x /\ -1000000000000000000<=x/\x<=1000000000000000000:=by
  rcases g3' with e | e
  ·exact⟨_,e,by decide,by decide⟩
  ·exact⟨_,e,mfar _⟩
 subst hsh;subst hby;subst hfar;refine⟨R.map (spot by' far sh),ps,by',far,sh,⟨P,pl,b0,b1,f0,f1,s0,s1,by rw [hRR]⟩,?_⟩
 unfold znv;generalize hΓ:tab zgv=Γ;have h46:Γ 46=zpk:=by rw [<- hΓ];rfl
 have h34:Γ 34=zeq:=by rw [<- hΓ];rfl
 have h29:Γ 29=zbl:=by rw [<- hΓ];rfl
 have h2:Γ 2=zcj:=by rw [<- hΓ];rfl
 have h13:Γ 13=zbu:=by rw [<- hΓ];rfl
 have m1:zap 2 1000000000000000000=true:=zah (by decide) (by decide) (by decide) (by decide);have lfR:=yga R;have hcomp:ev Γ (.comp (.tup (.cons (.call 13 (.cons (.bin .add (.bin .mul (.var 1) (.var 3)) (.var 4)) (.cons (.var 5) .nil))) (.cons (.call 13 (.cons (.bin .sub (.bin .mul (.var 2) (.var 3)) (.bin .mul (.int 2) (.var 4))) (.cons (.var 5) .nil))) .nil))) (.tup [1,2]) (.seqV 3) 3 [6,7,5] .non)
   [some (.lst (ns.map D.int)),some (.int (s:Int)),some (.int (m:Int)),some (.lst (R.map pD)),some (.int t),some (.int sh),some (.int by'),some (.int far)]=some (.new (R.map fun p=>stD (spot by' far sh p))):=by
  refine zes (g:=pD) ?_ (by rw [Y7];omega) rfl fun p hp=>?_
  ·clear hR hRR hΓ g1 g2 g3 hr hps ht hc0 hc1 hc2;walk_at "evh"
  ·obtain⟨x0,x1,y0,y1⟩:=hR p hp
   obtain⟨x,y⟩:=p
   simp only at x0 x1 y0 y1
   have k1:zap x by'=true:=mk2 x0 x1 b0 b1
   have k2:zap y by'=true:=mk2 y0 y1 b0 b1
   have k3:zap 2 far=true:=mkf f0 f1;have w1:=zfd (t:=x*by'+far) (b:=sh) (e9 s0 s1).1 (e9 s0 s1).2;have w2:=zfd (t:=y*by'-2*far) (b:=sh) (e9 s0 s1).1 (e9 s0 s1).2;have q1:stD (spot by' far sh (x,y))=.tup [fr (Rat.divInt (x*by'+far) sh),fr (Rat.divInt (y*by'-2*far) sh)]:=rfl;have q2:pD (x,y)=.tup [.int x,.int y]:=rfl;rw [q1,q2];clear hR hRR hΓ g1 g2 g3 hr hps ht hc0 hc1 hc2 x0 x1 y0 y1 hp q1 q2 g1' g2' g3' P;walk_at "evh"
 rw [Wv];show run Γ zaf 8 _=some (.new (R.map fun p=>stD (spot by' far sh p)));exact zvv h46 h34 h29 h2 hps hr ht hc0 hc1 hc2 g1 g2 g3 lfR hcomp
end
open Sf
mutual
theorem ydq:∀ (n:Nat) (d:D),dOk n d=true->eqD d d=true
 | _,.non,_=>rfl
 | _,.bl b,_=>by simp only [eqD,beq_self_eq_true]
 | _,.int i,_=>by simp [eqD]
 | 0,.tup l,h=>by simp only [dOk] at h;cases h
 | n+1,.tup l,h=>by
  simp only [dOk] at h;simp only [eqD];exact eqL_self n l h
 | 0,.lst l,h=>by simp only [dOk] at h;cases h
 | n+1,.lst l,h=>by
  simp only [dOk] at h;simp only [eqD];exact eqL_self n l h
 | _,.exc x,h=>by simp only [dOk] at h;cases h
theorem eqL_self:∀ (n:Nat) (l:List D),dOkL n l=true->eqL l l=true
 | _,[],_=>by simp only [eqL]
 | n,d::l,h=>by
  simp only [dOkL,Zq] at h;simp only [eqL,Zq];exact⟨ydq n d h.1,eqL_self n l h.2⟩
end
theorem ygn:∀ l:List (Rat×Rat),dOkL 49 (l.map stD)=true
 | []=>rfl
 | q::l=>by
  rw [Zz];unfold dOkL;rw [ygn l];rfl
def SzL (n:Nat) (l:List (Rat×Rat)):Prop:=∀ q∈l,Sz n q.1/\Sz n q.2
section
variable {Γ:Nat->List D->Option W}
def zfb:List D->Option W:=run (tab [(11,zam)]) zgi 2
theorem ok_sized (h11:Γ 11=zam):∀ ds w,ds.length=2->zfb ds=some w->run Γ zgi 2 ds=some w:=fun ds w _ h=>zby [(11,zam)] (by intro p hp;rcases Zu.mp hp with rfl;exact h11) (by decide) ds w h
theorem zvs {l:List (Rat×Rat)} {x:Rat} (hl:l.length<=1000) (hz:SzL 2000 l) (hx:Sz 2000 x) (h0:0<x.num):zfb [.lst (l.map stD),fr x]=some (.new ((l.map fun q=>(q.1*x,q.2*x)).map stD)):=by
 unfold zfb;generalize hΓ:tab [(11,zam)]=Γ;have h11:Γ 11=zam:=by rw [<- hΓ];rfl
 have hn:decide (x.num<=0)=false:=decide_eq_false (by omega);have hcomp:ev Γ (.comp (.tup (.cons (.call 11 (.cons (.var 1) (.cons (.var 3) .nil))) (.cons (.call 11 (.cons (.var 2) (.cons (.var 3) .nil))) .nil))) (.tup [1,2]) (.seqV 0) 3 [1] .non) [some (.lst (l.map stD)),some (fr x)]=some (.new (l.map fun q=>stD (q.1*x,q.2*x))):=by
  refine zes (g:=stD) ?_ (by rw [Y7];omega) rfl fun q hq=>?_
  ·clear hz hx h0 hn hΓ;walk_at "evh"
  ·have t1:zam [fr q.1,fr x]=some (.val (fr (q.1*x))):=zan (B9 (hz q hq).1 hx (by decide) (by decide));have t2:zam [fr q.2,fr x]=some (.val (fr (q.2*x))):=zan (B9 (hz q hq).2 hx (by decide) (by decide));have q1:stD (q.1*x,q.2*x)=.tup [fr (q.1*x),fr (q.2*x)]:=rfl;have q2:stD q=.tup [fr q.1,fr q.2]:=rfl;rw [q1,q2];clear hz hx h0 hn hΓ hq q1 q2 hl;walk_at "evh"
 rw [Wv];show run Γ zgi 2 _=some (.new (l.map fun q=>stD (q.1*x,q.2*x)));generalize (l.map fun q=>stD (q.1*x,q.2*x))=O at *;unfold zgi;generalize hce:E.comp _ _ _ _ _ _=ce at *;clear hz hx h0 hΓ hl hce;walk_at "evh"
end
open Sf
section
variable {Γ:Nat->List D->Option W}
end
open Sf
abbrev H3:=Int×Int×Int
def hD (h:H3):D:=.tup [.int h.1,.int h.2.1,.int h.2.2]
structure HB (n:Nat) (h:H3):Prop where
 a:h.1.natAbs<2^n
 b:h.2.1.natAbs<2^n
 c:h.2.2.natAbs<2^n
def oR (a b c:Rat×Rat):Rat:=(b.1-a.1)*(c.2-a.2)-(b.2-a.2)*(c.1-a.1)
def ltR (a b:Rat×Rat):Prop:=a.1<b.1\/(a.1=b.1/\a.2<b.2)
theorem cast_pos {i:Int}:(0:Rat)<(i:Rat)↔0<i:=by
 rw [show (0:Rat)=((0:Int):Rat) from rfl,Jw]
theorem zns (x:Rat):(x.num:Rat)=x*((x.den:Int):Rat):=by
 have hp:=cast_pos.mpr (zbq x);have h:((x.den:Int):Rat)≠0:=fun z=>by rw [z] at hp;exact absurd hp (by decide)
 have e:x=(x.num:Rat)/((x.den:Int):Rat):=by
  conv=>lhs;rw [<- Rat.mkRat_self x,Rat.mkRat_eq_div]
  rw [Rat.intCast_natCast]
 have e2:x*((x.den:Int):Rat)=(x.num:Rat)/((x.den:Int):Rat)*((x.den:Int):Rat):=by
  conv=>lhs;lhs;rw [e]
 rw [e2,Ba h]
section
variable {Γ:Nat->List D->Option W}
structure IsShp (l:List (Rat×Rat)):Prop where
 three:3<=l.length
 first:∀ k q0 q,l[0]? = some q0->l[k+1]? = some q->ltR q0 q
 conv:∀ k a b c,l[(k+l.length-1)%l.length]? = some a->l[k]? = some b->c∈l->c≠a->c≠b->0<oR a b c
end
open Sf
abbrev Lft (ps:List (Int×Int)):Prop:=∃ o p q,o∈ps/\p∈ps/\q∈ps/\0<Hu.o3 o p q
theorem ztt {ps:List (Int×Int)} (h:Lft ps):Hu.RingOk (zbx ps) (Hu.ring (zbx ps))/\3<=(Hu.ring (zbx ps)).length:=by
 refine xt h fun o p q ho hp hq hl=>?_;clear h
 have ne:o≠p:=fun e=>by subst e;rw [Hu.o3_aa] at hl;omega
 have h2:2<=(zbx ps).length:=by
  have mo:=sortP_mem.mpr ho;have mp:=sortP_mem.mpr hp;match hs:zbx ps with
  | []=>rw [hs] at mo;cases mo
  | [x]=>
   rw [hs] at mo mp;exact absurd ((Zu.mp mo).trans (Zu.mp mp).symm) ne
  | x::y::r=>simp
 have R:=Hu.ring_ok (zvr ps) h2;exact⟨R,R.big o p q (sortP_mem.mpr ho) (sortP_mem.mpr hp) (sortP_mem.mpr hq) (by omega)⟩
theorem zmx (b f s:Int) (p:Int×Int):(spot b f s p).1=((p.1:Rat)*(b:Rat)+(f:Rat))*(s:Rat)⁻¹:=by
 unfold spot;simp only
 rw [Wp,W0,Rat.intCast_add,Wi]
theorem zmw (b f s:Int) (p:Int×Int):(spot b f s p).2=((p.2:Rat)*(b:Rat)-2*(f:Rat))*(s:Rat)⁻¹:=by
 unfold spot;simp only
 rw [Wp,W0,Uc,Wi,Wi];rfl
theorem yje (a b c:Int×Int):((Hu.o3 a b c:Int):Rat)=((b.1:Rat)-(a.1:Rat))*((c.2:Rat)-(a.2:Rat))-((b.2:Rat)-(a.2:Rat))*((c.1:Rat)-(a.1:Rat)):=by
 unfold Hu.o3 Hu.cr Hu.sb;simp only [Uc,Wi]
theorem yjc (b f s:Int) (x y z:Int×Int):oR (spot b f s x) (spot b f s y) (spot b f s z)=((b:Rat)*(s:Rat)⁻¹)*((b:Rat)*(s:Rat)⁻¹)*((Hu.o3 x y z:Int):Rat):=by
 unfold oR;rw [zmx,zmx,zmx,zmw,zmw,zmw,yje];generalize (s:Rat)⁻¹=k;grind
theorem ygs {b s:Int} (hb:1<=b) (hs:1<=s):(0:Rat)<(b:Rat)*(s:Rat)⁻¹:=Wa (cast_pos.mpr (by omega)) (Jp.mpr (cast_pos.mpr (by omega)))
theorem zph {b f s:Int} (hb:1<=b) (hs:1<=s) {x y z:Int×Int} (h:0<Hu.o3 x y z):0<oR (spot b f s x) (spot b f s y) (spot b f s z):=by
 rw [yjc];exact Wa (Wa (ygs hb hs) (ygs hb hs)) (cast_pos.mpr h)
theorem zpm {b f s:Int} (hb:1<=b) (hs:1<=s) {x y:Int×Int} (h:Hu.lt x y):ltR (spot b f s x) (spot b f s y):=by
 have hk:=Jp.mpr (cast_pos.mpr (show 0<s by omega));have hb':=cast_pos.mpr (show 0<b by omega);unfold ltR;rw [zmx,zmx,zmw,zmw];rcases h with h | ⟨h1,h2⟩
 ·left
  rw [Qi hk];have:=(Qi hb').mpr (Jw.mpr h)
  grind
 ·right
  refine⟨by rw [h1],?_⟩
  rw [Qi hk];have:=(Qi hb').mpr (Jw.mpr h2)
  grind
theorem yjk {R:List (Int×Int)} {i:Nat} {a:Int×Int} (h:R[i]? = some a):i<R.length:=(Zn.mp h).1
theorem nd_ne {R:List (Int×Int)} (nd:R.Nodup) {i j:Nat} {a b:Int×Int} (h1:R[i]? = some a) (h2:R[j]? = some b) (h:i≠j):a≠b:=fun e=>by
 subst e;refine xb (Zn.mp h1) fun l1 e1=>?_;refine xb (Zn.mp h2) fun l2 e2=>?_;exact h ((Ko nd).mp (e1.trans e2.symm))
theorem shp_of {l R:List (Int×Int)} (hR:Hu.RingOk l R) (h3:3<=R.length) {b f s:Int} (hb:1<=b) (hs:1<=s):IsShp (R.map (spot b f s)):=by
 refine⟨by rw [Zd];exact h3,fun k q0 q h0 hk=>?_,fun k a b' c ha hb' hc ca cb=>?_⟩
 ·rw [Zj] at h0 hk;refine xa (Zb.mp h0) fun p0 e0 qz2=>?_;subst qz2
  refine xa (Zb.mp hk) fun p e1 qz2=>?_;subst qz2
  rcases hR.first p0 e0 p (hR.sub p (Zw e1)) with e | e
  ·exact absurd e.symm (nd_ne hR.nd e0 e1 (by omega))
  ·exact zpm hb hs e
 ·rw [Zj,Zd] at ha;rw [Zj] at hb';refine xa (Zb.mp ha) fun pa ea qz2=>?_;subst qz2
  refine xa (Zb.mp hb') fun pb eb qz2=>?_;subst qz2
  refine xa (Z1.mp hc) fun pc hpc qz2=>?_;subst qz2
  have hk:=yjk eb;have e:((k+R.length-1)%R.length+1)%R.length=k:=by
   rcases Wx k with z | z
   ·subst z;rw [Zt (show 0+R.length-1<R.length by omega),show 0+R.length-1+1=R.length by omega,Km]
   ·rw [show k+R.length-1=(k-1)+R.length by omega,Wr,Zt (show k-1<R.length by omega),show k-1+1=k by omega,Zt hk]
  exact zph hb hs (hR.strict _ _ _ _ ea (by rw [e];exact eb) hpc (fun z=>ca (by rw [z])) (fun z=>cb (by rw [z])))
section
variable {Γ:Nat->List D->Option W}
end
open Sf
section
variable {Γ:Nat->List D->Option W}
end
open Sf
theorem cut_to {l:List D} {a:Nat} (h:a<=l.length):cutD l none (some (a:Int))=l.take a:=by
 unfold cutD;rw [HT.sIx_none,HT.sIx_nat,Jc,Uf,Ug h]
theorem zso {l:List D} {a:Nat} (h:a<=l.length):cutD l (some (a:Int)) none=l.drop a:=by
 unfold cutD;rw [HT.sIx_none,HT.sIx_nat,Ug h,Ju (by rw [Yr];exact Zg _)]
section
variable {Γ Γ':Nat->List D->Option W}
end
open Sf
def t3 (a b c:Rat):H3:=(a.num*((b.den:Int)*(c.den:Int)),b.num*((a.den:Int)*(c.den:Int)),c.num*((a.den:Int)*(b.den:Int)))
def g3 (t:H3):Int:=gc (gc (gc 0 t.1) t.2.1) t.2.2
def low3 (a b c:Rat):H3:=((t3 a b c).1.fdiv (g3 (t3 a b c)),(t3 a b c).2.1.fdiv (g3 (t3 a b c)),(t3 a b c).2.2.fdiv (g3 (t3 a b c)))
theorem zsb (t:H3):g3 t∣t.1/\g3 t∣t.2.1/\g3 t∣t.2.2:=by
 unfold g3 gc;have h1:=Kt (a:=((Int.gcd (Int.gcd 0 t.1:Int) t.2.1:Nat):Int)) (b:=t.2.2);have h2:=Kt (a:=((Int.gcd 0 t.1:Nat):Int)) (b:=t.2.1);have h3:=Qk (a:=0) (b:=t.1);have h4:=Qk (a:=((Int.gcd 0 t.1:Nat):Int)) (b:=t.2.1);have h5:=Qk (a:=((Int.gcd (Int.gcd 0 t.1:Int) t.2.1:Nat):Int)) (b:=t.2.2);exact⟨Qn h1 (Qn h2 h3),Qn h1 h4,h5⟩
theorem dvd_g3 {t:H3} {d:Int} (h1:d∣t.1) (h2:d∣t.2.1) (h3:d∣t.2.2):d∣g3 t:=by
 unfold g3 gc;exact Vw (Vw (Vw (Int.dvd_zero d) h1) h2) h3
theorem ygf {t:H3} (h:t.1≠0\/t.2.1≠0\/t.2.2≠0):0<g3 t:=by
 have nn:0<=g3 t:=Kg _;have ne:g3 t≠0:=fun e=>by
  refine xi (zsb t) fun d1 d2 d3=>?_;rw [e] at d1 d2 d3;have e1:=Gv.mp d1;have e2:=Gv.mp d2;have e3:=Gv.mp d3;rcases h with h | h | h
  ·exact h e1
  ·exact h e2
  ·exact h e3
 omega
structure Low3 (a b c:Rat) (t:H3):Prop where
 co:gc (gc t.1 t.2.1) t.2.2=1
 scale:∃ k:Rat,0<k/\(t.1:Rat)=k*a/\(t.2.1:Rat)=k*b/\(t.2.2:Rat)=k*c
theorem zxp {a b c:Rat} (h:a≠0\/b≠0):Low3 a b c (low3 a b c):=by
 have da:=zbq a;have db:=zbq b;have dc:=zbq c;have hne:(t3 a b c).1≠0\/(t3 a b c).2.1≠0\/(t3 a b c).2.2≠0:=by
  rcases h with h | h
  ·left
   exact Yb (fun e=>h (num_zero.mp e)) (Yb (by omega) (by omega))
  ·right;left
   exact Yb (fun e=>h (num_zero.mp e)) (Yb (by omega) (by omega))
 have gp:=ygf hne;obtain⟨⟨x,e1⟩,⟨y,e2⟩,⟨z,e3⟩⟩:=zsb (t3 a b c)
 have f1:(t3 a b c).1.fdiv (g3 (t3 a b c))=x:=by
  conv=>lhs;lhs;rw [e1]
  exact Yi _ (by omega)
 have f2:(t3 a b c).2.1.fdiv (g3 (t3 a b c))=y:=by
  conv=>lhs;lhs;rw [e2]
  exact Yi _ (by omega)
 have f3:(t3 a b c).2.2.fdiv (g3 (t3 a b c))=z:=by
  conv=>lhs;lhs;rw [e3]
  exact Yi _ (by omega)
 unfold low3;rw [f1,f2,f3];generalize hg:g3 (t3 a b c)=g at *;refine⟨?_,?_⟩
 ·have nn:0<=gc (gc x y) z:=gc_nn _ _;have d0:gc (gc x y) z∣z:=Qk _ _;have d1:gc (gc x y) z∣gc x y:=Kt _ _;have d2:gc (gc x y) z∣x:=Qn d1 (Kt _ _);have d3:gc (gc x y) z∣y:=Qn d1 (Qk _ _);simp only
  generalize gc (gc x y) z=d at *;have dg:g*d∣g3 (t3 a b c):=dvd_g3 (by rw [e1];exact Uq g d2) (by rw [e2];exact Uq g d3) (by rw [e3];exact Uq g d0);rw [hg] at dg;refine xb dg fun k hk=>?_;clear dg
  have:d*k=1:=by
   apply Int.eq_of_mul_eq_mul_left (show g≠0 by omega)
   rw [<- U3,<- hk,Vv]
  exact Int.eq_one_of_mul_eq_one_right nn this
 ·have gr:(0:Rat)<(g:Rat):=cast_pos.mpr gp;have gi:=Jp.mpr gr;have gne:(g:Rat)≠0:=fun e=>by rw [e] at gr;exact absurd gr (by decide)
  have A:=cast_pos.mpr da;have Bp:=cast_pos.mpr db;have Cp:=cast_pos.mpr dc;refine⟨((a.den:Int):Rat)*((b.den:Int):Rat)*((c.den:Int):Rat)*(g:Rat)⁻¹,Wa (Wa (Wa A Bp) Cp) gi,?_,?_,?_⟩
  ·have q:((t3 a b c).1:Rat)=(g:Rat)*(x:Rat):=by rw [e1,Wi]
   have q2:((t3 a b c).1:Rat)=a*((a.den:Int):Rat)*(((b.den:Int):Rat)*((c.den:Int):Rat)):=by
    unfold t3;simp only [Wi];rw [zns a]
   have q3:(x:Rat)=(g:Rat)⁻¹*((g:Rat)*(x:Rat)):=by rw [<- Ge,U2 _ gne,Jo]
   simp only
   rw [q3,<- q,q2];grind
  ·have q:((t3 a b c).2.1:Rat)=(g:Rat)*(y:Rat):=by rw [e2,Wi]
   have q2:((t3 a b c).2.1:Rat)=b*((b.den:Int):Rat)*(((a.den:Int):Rat)*((c.den:Int):Rat)):=by
    unfold t3;simp only [Wi];rw [zns b]
   have q3:(y:Rat)=(g:Rat)⁻¹*((g:Rat)*(y:Rat)):=by rw [<- Ge,U2 _ gne,Jo]
   simp only
   rw [q3,<- q,q2];grind
  ·have q:((t3 a b c).2.2:Rat)=(g:Rat)*(z:Rat):=by rw [e3,Wi]
   have q2:((t3 a b c).2.2:Rat)=c*((c.den:Int):Rat)*(((a.den:Int):Rat)*((b.den:Int):Rat)):=by
    unfold t3;simp only [Wi];rw [zns c]
   have q3:(z:Rat)=(g:Rat)⁻¹*((g:Rat)*(z:Rat)):=by rw [<- Ge,U2 _ gne,Jo]
   simp only
   rw [q3,<- q,q2];grind
theorem t3_bd {n:Nat} {a b c:Rat} (ha:Sz n a) (hb:Sz n b) (hc:Sz n c):HB (n+(n+n)) (t3 a b c):=
 ⟨zav ha.t (zav (B3 hb) (B3 hc)),zav hb.t (zav (B3 ha) (B3 hc)),zav hc.t (zav (B3 ha) (B3 hb))⟩
section
variable {Γ:Nat->List D->Option W}
def zpl:List D->Option W:=run (tab [(0,zao)]) zaw 6
theorem ok_lowest_whole (h0:Γ 0=zao):∀ ds w,ds.length=1->zpl ds=some w->run Γ zaw 6 ds=some w:=fun ds w _ h=>zby [(0,zao)] (by intro p hp;rcases Zu.mp hp with rfl;exact h0) (by decide) ds w h
theorem zpr {x d y:Int} (hd:d≠0) (e:x=d*y):x.fdiv d=y:=by rw [e];exact Yi _ hd
abbrev cLw:E:=(.comp (.bin .mul (.ix (.var 1) (.int 0)) (.bin .fdiv (.var 2) (.ix (.var 1) (.int 1)))) (.name 1) (.seqV 0) 2 [1] .non)
abbrev fLw:E:=(.fm .tupl (.cons (.comp (.bin .fdiv (.var 1) (.var 2)) (.name 1) (.seqV 3) 2 [4] .non) .nil))
theorem ycw (h0:Γ 0=zao) {A1 B1 C1:D} {a b c u1 u2 u3 g:Int} {O:D} (ia:ixD A1 (.int 1)=some (.int a)) (ib:ixD B1 (.int 1)=some (.int b)) (ic:ixD C1 (.int 1)=some (.int c)) (lA:lf A1=true) (lB:lf B1=true) (lC:lf C1=true) (m0:zap 1 a=true) (e0:1*a=a) (m1:zap a b=true) (m2:zap (a*b) c=true)
  (hT:∀ x y u v,ev Γ cLw [some (.tup [A1,B1,C1]),some (.int (a*b*c)),x,y,u,v]=some (.new [.int u1,.int u2,.int u3])) (hU:∀ x y z u,ev Γ fLw [x,y,z,some (.lst [.int u1,.int u2,.int u3]),some (.int g),u]=some (.val O)) (gE:gc (gc (gc 0 u1) u2) u3=g):run Γ zaw 6 [.tup [A1,B1,C1]]=some (.val O):=by
 have hf6:∀ a b c d e f:Option B,frz [a,b,c,d,e,f]=[a.map fun x=>.sh x.d,b.map fun x=>.sh x.d,c.map fun x=>.sh x.d,d.map fun x=>.sh x.d,e.map fun x=>.sh x.d,f.map fun x=>.sh x.d]:=fun _ _ _ _ _ _=>rfl
 have md:=@zed;unfold zaw;unfold cLw at hT;unfold fLw at hU;generalize hc1:E.comp (.bin .mul (.ix (.var 1) (.int 0)) (.bin .fdiv (.var 2) (.ix (.var 1) (.int 1)))) (.name 1) (.seqV 0) 2 [1] .non=ce at *;generalize hc2:E.fm .tupl _=cf at *;clear hc1 hc2;walk_at "evh"
 unfold forN;walk_at "evh"
 unfold forN;walk_at "evh"
 unfold forN;walk_at "evh"
 unfold forN;walk_at "evh"
 unfold forN;walk_at "evh"
 unfold forN;walk_at "evh"
 unfold forN;walk_at "evh"
 unfold forN;walk_at "evh"
theorem ycx {n:Nat} {a b c:Rat} (ha:Sz n a) (hb:Sz n b) (hc:Sz n c) (hn:n<=1000) (hne:a≠0\/b≠0):zpl [.tup [fr a,fr b,fr c]]=some (.val (hD (low3 a b c))):=by
 unfold zpl;generalize hΓ:tab [(0,zao)]=Γ;have h0:Γ 0=zao:=by rw [<- hΓ];rfl
 have da:=zbq a;have db:=zbq b;have dc:=zbq c;have tb:=t3_bd ha hb hc;have hnz:(t3 a b c).1≠0\/(t3 a b c).2.1≠0\/(t3 a b c).2.2≠0:=by
  rcases hne with h | h
  ·left
   exact Yb (fun e=>h (num_zero.mp e)) (Yb (by omega) (by omega))
  ·right;left
   exact Yb (fun e=>h (num_zero.mp e)) (Yb (by omega) (by omega))
 have gp:=ygf hnz;have gb:(g3 (t3 a b c)).natAbs<2^(n+(n+n)):=by
  refine xi (zsb (t3 a b c)) fun d1 d2 d3=>?_;rcases hnz with h | h | h
  ·exact Wb (zat d1 h) tb.a
  ·exact Wb (zat d2 h) tb.b
  ·exact Wb (zat d3 h) tb.c
 have m0:zap 1 (a.den:Int)=true:=zar (n:=n) (m:=1) (by decide) (B3 ha) (by decide) (by omega);have e0:(1:Int)*(a.den:Int)=a.den:=Int.one_mul _;have m1:zap (a.den:Int) (b.den:Int)=true:=zar (B3 ha) (B3 hb) (by omega) (by omega);have m2:zap ((a.den:Int)*(b.den:Int)) (c.den:Int)=true:=zar (zav (B3 ha) (B3 hb)) (B3 hc) (by omega) (by omega);have o1:zdj (a.den:Int)=true:=zcr (by omega) (B3 ha) (by omega);have o2:zdj (b.den:Int)=true:=zcr (by omega) (B3 hb) (by omega);have o3:zdj (c.den:Int)=true:=zcr (by omega) (B3 hc) (by omega);have o4:zdj (g3 (t3 a b c))=true:=zcr (by omega) gb (by omega);have q1:((a.den:Int)*(b.den:Int)*(c.den:Int)).fdiv (a.den:Int)=(b.den:Int)*(c.den:Int):=zpr (by omega) (by rw [U3]);have q2:((a.den:Int)*(b.den:Int)*(c.den:Int)).fdiv (b.den:Int)=(a.den:Int)*(c.den:Int):=zpr (by omega) (by rw [Qv (a.den:Int) (b.den:Int),U3]);have q3:((a.den:Int)*(b.den:Int)*(c.den:Int)).fdiv (c.den:Int)=(a.den:Int)*(b.den:Int):=zpr (by omega) (by rw [Qv]);have k1:zap a.num ((b.den:Int)*(c.den:Int))=true:=zar ha.t (zav (B3 hb) (B3 hc)) (by omega) (by omega);have k2:zap b.num ((a.den:Int)*(c.den:Int))=true:=zar hb.t (zav (B3 ha) (B3 hc)) (by omega) (by omega);have k3:zap c.num ((a.den:Int)*(b.den:Int))=true:=zar hc.t (zav (B3 ha) (B3 hb)) (by omega) (by omega);have hT:∀ x y u v,ev Γ (.comp (.bin .mul (.ix (.var 1) (.int 0)) (.bin .fdiv (.var 2) (.ix (.var 1) (.int 1)))) (.name 1) (.seqV 0) 2 [1] .non) [some (.tup [fr a,fr b,fr c]),some (.int ((a.den:Int)*(b.den:Int)*(c.den:Int))),x,y,u,v]=some (.new [.int (t3 a b c).1,.int (t3 a b c).2.1,.int (t3 a b c).2.2]):=by
  intro x y u v;have:=zes (Γ:=Γ) (ρ:=[some (.tup [fr a,fr b,fr c]),some (.int ((a.den:Int)*(b.den:Int)*(c.den:Int))),x,y,u,v]) (elt:=.bin .mul (.ix (.var 1) (.int 0)) (.bin .fdiv (.var 2) (.ix (.var 1) (.int 1)))) (t:=.name 1) (it:=.seqV 0) (nt:=2) (fr:=[1]) (c:=.non) (l:=[(a,(t3 a b c).1),(b,(t3 a b c).2.1),(c,(t3 a b c).2.2)]) (g:=fun p=>fr p.1) (h:=fun p=>.int p.2) (by rfl) (by show 3<=PySem.sizeLine;decide) rfl (fun p hp=>?_)
  ·exact this
  ·simp only [Zf,Wd,or_false] at hp;clear tb hnz gp gb m0 m1 m2 o4 ha hb hc da db dc hne hΓ e0;rcases hp with rfl | rfl | rfl <;> unfold t3 <;> walk_at "evh"
 have hU:∀ x y z u,ev Γ (.fm .tupl (.cons (.comp (.bin .fdiv (.var 1) (.var 2)) (.name 1) (.seqV 3) 2 [4] .non) .nil)) [x,y,z,some (.lst [.int (t3 a b c).1,.int (t3 a b c).2.1,.int (t3 a b c).2.2]),some (.int (g3 (t3 a b c))),u]=some (.val (hD (low3 a b c))):=by
  intro x y z u;have:=zes (Γ:=Γ) (ρ:=[x,y,z,some (.lst [.int (t3 a b c).1,.int (t3 a b c).2.1,.int (t3 a b c).2.2]),some (.int (g3 (t3 a b c))),u]) (elt:=.bin .fdiv (.var 1) (.var 2)) (t:=.name 1) (it:=.seqV 3) (nt:=2) (fr:=[4]) (c:=.non) (l:=[(t3 a b c).1,(t3 a b c).2.1,(t3 a b c).2.2]) (g:=fun p=>.int p) (h:=fun p=>.int (p.fdiv (g3 (t3 a b c)))) (by rfl) (by show 3<=PySem.sizeLine;decide) rfl (fun p hp=>by
    clear hp tb hnz gp gb m0 m1 m2 ha hb hc da db dc hne hΓ hT e0;walk_at "evh")
  rw [ev_fm,zsi,zym];unfold evd;rw [this];rfl
 have gE:gc (gc (gc 0 (t3 a b c).1) (t3 a b c).2.1) (t3 a b c).2.2=g3 (t3 a b c):=rfl;exact ycw h0 ixf1 ixf1 ixf1 lff lff lff m0 e0 m1 m2 hT hU gE
end
open Sf
def pairsOf {α:Type} (l:List α):List (α×α):=l.zip (l.drop 1++l.take 1)
theorem zbg {α:Type} (l:List α):(pairsOf l).length=l.length:=by
 unfold pairsOf;rw [Vo,Zs,Yr,W9];omega
theorem zii {α:Type} {l:List α} {k:Nat} {p:α×α} (h:(pairsOf l)[k]? = some p):l[k]? = some p.1/\l[(k+1)%l.length]? = some p.2:=by
 have hk:k<l.length:=by
  have:=(Zn.mp h).1
  rw [zbg] at this;exact this
 unfold pairsOf at h;rw [Jb] at h;refine⟨h.1,?_⟩
 have h2:=h.2;rcases Yw (k+1) l.length with q | q
 ·rw [Z4 (by rw [Yr];omega),K0,Ve] at h2;rw [Zt q];exact h2
 ·have e:k+1=l.length:=by omega
  rw [Zx (by rw [Yr];omega),Yr,show k-(l.length-1)=0 by omega,Jh (by decide)] at h2;rw [e,Km];exact h2
theorem zip_map (l:List (Rat×Rat)):zipD (l.map stD) ((l.map stD).drop 1++(l.map stD).take 1)=(pairsOf l).map fun p=>D.tup [stD p.1,stD p.2]:=by
 unfold zipD pairsOf;rw [<- Uz,<- V5,<- Ys,List.zip_map,Wv];rfl
def zev (s e:Rat×Rat):H3:=low3 (s.2-e.2) (e.1-s.1) ((s.2-e.2)*s.1+(e.1-s.1)*s.2)
theorem zlh {s e:Rat×Rat} (h:s≠e):s.2-e.2≠0\/e.1-s.1≠0:=by
 refine Yf fun hn=>h ?_
 have h1:s.2-e.2=0:=Yf fun z=>hn (.inl z)
 have h2:e.1-s.1=0:=Yf fun z=>hn (.inr z)
 refine Yv ?_ ?_
 ·grind
 ·grind
theorem yht {s e:Rat×Rat} (hs1:Sz 165 s.1) (hs2:Sz 165 s.2) (he1:Sz 165 e.1) (he2:Sz 165 e.2) (h:s≠e):HB 3000 (zev s e):=by
 have ha:=hs2.sub he2;have hb:=he1.sub hs1;have hc:=(ha.mul hs1).add (hb.mul hs2);have tb:=t3_bd (ha.mono (show 165+165+1<=1000 by decide)) (hb.mono (show 165+165+1<=1000 by decide)) (hc.mono (show (165+165+1+165)+(165+165+1+165)+1<=1000 by decide));refine xi (zsb (t3 (s.2-e.2) (e.1-s.1) ((s.2-e.2)*s.1+(e.1-s.1)*s.2))) fun d1 d2 d3=>?_;have key:∀ t g:Int,g∣t->t.natAbs<2^3000->(t.fdiv g).natAbs<2^3000:=fun t g hd ht=>by
  refine xb hd fun x hx=>?_;clear hd
  rcases Bg (g=0) with z | z
  ·rw [z,Int.fdiv_zero];exact Vt _
  ·rw [hx,Yi _ z];rcases Bg (x=0) with zx | zx
   ·rw [zx];exact Vt _
   ·refine Wb ?_ ht;exact zat ⟨g,by rw [hx,Qv]⟩ (by rw [hx];exact Yb z zx)
 exact⟨key _ _ d1 tb.a,key _ _ d2 tb.b,key _ _ d3 tb.c⟩
section
variable {Γ:Nat->List D->Option W}
def zdi:List D->Option W:=run (tab []) zjb 1
theorem ok_steps:∀ ds w,ds.length=1->zdi ds=some w->run Γ zjb 1 ds=some w:=fun ds w _ h=>zby [] (fun p hp=>by cases hp) (by decide) ds w h
theorem zmv {L:List D} (h1:1<=L.length) (h2:L.length<=1000):zdi [.lst L]=some (.new (zipD L (L.drop 1++L.take 1))):=by
 have c1:=zso (l:=L) (a:=1) h1;have c2:=cut_to (l:=L) (a:=1) h1;rw [show ((1:Nat):Int)=1 from rfl] at c1 c2;have ad:opW .add (.lst (L.drop 1)) (.lst (L.take 1))=some (.new (L.drop 1++L.take 1)):=by
  show (if _ then some (W.new _) else none)=_;rw [if_pos (by rw [Y7,Yr,W9];omega)]
 have zz:fmW .zip [.lst L,.lst (L.drop 1++L.take 1)]=some (.new (zipD L (L.drop 1++L.take 1))):=by
  show (if _ then some (W.new _) else none)=_;rw [if_pos (by rw [Zs,Yr,W9];omega)]
 generalize zipD L (L.drop 1++L.take 1)=Z at *;generalize L.drop 1++L.take 1=Y at *;generalize L.drop 1=Y1 at *;generalize L.take 1=Y2 at *;clear h1 h2;unfold zdi zjb;walk_at "evh"
abbrev zgu:List (Nat×(List D->Option W)):=[(9,zbv),(10,zci),(11,zam),(43,zpl)]
def zfc:List D->Option W:=run (tab zgu) zaz 5
theorem ok_side_between (h9:Γ 9=zbv) (h10:Γ 10=zci) (h11:Γ 11=zam) (h43:Γ 43=zpl):∀ ds w,ds.length=2->zfc ds=some w->run Γ zaz 5 ds=some w:=fun ds w _ h=>zby zgu (by
 intro p hp;simp only [zgu,Zf,Wd,or_false] at hp;rcases hp with rfl | rfl | rfl | rfl <;> assumption) (by decide) ds w h
theorem zvu {s e:Rat×Rat} (hs1:Sz 165 s.1) (hs2:Sz 165 s.2) (he1:Sz 165 e.1) (he2:Sz 165 e.2) (h:s≠e):zfc [stD s,stD e]=some (.val (hD (zev s e))):=by
 unfold zfc;generalize hΓ:tab zgu=Γ;have h9:Γ 9=zbv:=by rw [<- hΓ];rfl
 have h10:Γ 10=zci:=by rw [<- hΓ];rfl
 have h11:Γ 11=zam:=by rw [<- hΓ];rfl
 have h43:Γ 43=zpl:=by rw [<- hΓ];rfl
 have ha:=hs2.sub he2;have hb:=he1.sub hs1;have q1:zci [fr s.2,fr e.2]=some (.val (fr (s.2-e.2))):=zan (B9 hs2 he2 (by decide) (by decide));have q2:zci [fr e.1,fr s.1]=some (.val (fr (e.1-s.1))):=zan (B9 he1 hs1 (by decide) (by decide));have q3:zam [fr (s.2-e.2),fr s.1]=some (.val (fr ((s.2-e.2)*s.1))):=zan (B9 ha hs1 (by decide) (by decide));have q4:zam [fr (e.1-s.1),fr s.2]=some (.val (fr ((e.1-s.1)*s.2))):=zan (B9 hb hs2 (by decide) (by decide));have q5:zbv [fr ((s.2-e.2)*s.1),fr ((e.1-s.1)*s.2)]=some (.val (fr ((s.2-e.2)*s.1+(e.1-s.1)*s.2))):=zan (B9 (ha.mul hs1) (hb.mul hs2) (by decide) (by decide));have hc:=(ha.mul hs1).add (hb.mul hs2);have q6:=ycx (ha.mono (show 165+165+1<=1000 by decide)) (hb.mono (show 165+165+1<=1000 by decide)) (hc.mono (show (165+165+1+165)+(165+165+1+165)+1<=1000 by decide)) (by decide) (zlh h);have q7:hD (low3 (s.2-e.2) (e.1-s.1) ((s.2-e.2)*s.1+(e.1-s.1)*s.2))=hD (zev s e):=rfl;rw [q7] at q6;generalize hD (zev s e)=O at *;clear ha hb hc hs1 hs2 he1 he2 h hΓ q7;unfold zaz stD;walk_at "evh"
def zil:List D->Option W:=run (tab [(41,zdi),(42,zfc)]) zcg 1
theorem ok_sides_of (h41:Γ 41=zdi) (h42:Γ 42=zfc):∀ ds w,ds.length=1->zil ds=some w->run Γ zcg 1 ds=some w:=fun ds w _ h=>zby [(41,zdi),(42,zfc)] (by
 intro p hp;simp only [Zf,Wd,or_false] at hp;rcases hp with rfl | rfl <;> assumption) (by decide) ds w h
def zab (l:List (Rat×Rat)):List H3:=(pairsOf l).map fun p=>zev p.1 p.2
theorem zwz {l:List (Rat×Rat)} (nd:l.Nodup) (h2:2<=l.length) {p:(Rat×Rat)×(Rat×Rat)} (hp:p∈pairsOf l):p.1≠p.2/\p.1∈l/\p.2∈l:=by
 refine xb (Yg hp) fun k hk=>?_;refine xg (zii hk) fun g1 g2=>?_;refine⟨fun e=>?_,Zw g1,Zw g2⟩
 rw [e] at g1;refine xb (Zn.mp g1) fun l1 e1=>?_;refine xb (Zn.mp g2) fun l2 e2=>?_;have:=(Ko nd).mp (e1.trans e2.symm)
 rcases Yw (k+1) l.length with q | q
 ·rw [Zt q] at this;omega
 ·rw [show k+1=l.length by omega,Km] at this;omega
theorem znc {l:List (Rat×Rat)} (nd:l.Nodup) (h2:2<=l.length) (hl:l.length<=1000) (hz:SzL 165 l):zil [.lst (l.map stD)]=some (.new ((zab l).map hD)):=by
 unfold zil;generalize hΓ:tab [(41,zdi),(42,zfc)]=Γ;have h41:Γ 41=zdi:=by rw [<- hΓ];rfl
 have h42:Γ 42=zfc:=by rw [<- hΓ];rfl
 have st:=zmv (L:=l.map stD) (by rw [Zd];omega) (by rw [Zd];exact hl);rw [zip_map] at st;have pl:=zbg l;have hcomp:ev Γ (.comp (.call 42 (.cons (.var 1) (.cons (.var 2) .nil))) (.tup [1,2]) (.seq (.call 41 (.cons (.var 0) .nil))) 3 [] .non) [some (.lst (l.map stD))]=some (.new ((pairsOf l).map fun p=>hD (zev p.1 p.2))):=by
  refine zes (g:=fun p=>D.tup [stD p.1,stD p.2]) ?_ (by rw [Y7];omega) rfl fun p hp=>?_
  ·generalize (pairsOf l).map (fun p=>D.tup [stD p.1,stD p.2])=Z at *;clear nd h2 hl hz hΓ pl;walk_at "evh"
  ·refine xi (zwz nd h2 hp) fun ne m1 m2=>?_;have sb:=zvu (hz _ m1).1 (hz _ m1).2 (hz _ m2).1 (hz _ m2).2 ne;generalize hD (zev p.1 p.2)=O at *;generalize stD p.1=x at *;generalize stD p.2=y at *;clear nd h2 hl hz hΓ pl ne m1 m2 hp st;walk_at "evh"
 unfold zab;rw [Wv];show run Γ zcg 1 _=some (.new ((pairsOf l).map fun p=>hD (zev p.1 p.2)));generalize ((pairsOf l).map fun p=>hD (zev p.1 p.2))=O at *;unfold zcg;generalize hce:E.comp _ _ _ _ _ _=ce at *;clear nd h2 hl hz hΓ pl hce st;walk_at "evh"
end
open Sf
def Xr (p q:Rat×Rat):Rat:=p.1*q.2-q.1*p.2
theorem oR_X (a b c:Rat×Rat):oR a b c=Xr a b+Xr b c-Xr a c:=by unfold oR Xr;grind
abbrev at0 (l:List (Rat×Rat)) (i:Nat):Rat×Rat:=l.getD i (0,0)
def sX (l:List (Rat×Rat)):Nat->Rat
 | 0=>0
 | i+1=>sX l i+Xr (at0 l i) (at0 l ((i+1)%l.length))
def fanN (l:List (Rat×Rat)):Nat->Rat
 | 0=>0
 | i+1=>fanN l i+oR (at0 l 0) (at0 l (i+1)) (at0 l (i+2))
theorem ygk {l:List (Rat×Rat)}:∀ k,k+1<l.length->fanN l k=sX l (k+1)-Xr (at0 l 0) (at0 l (k+1))
 | 0,h=>by
  show (0:Rat)=0+Xr (at0 l 0) (at0 l ((0+1)%l.length))-Xr (at0 l 0) (at0 l (0+1));rw [Zt h];grind
 | k+1,h=>by
  show fanN l k+oR (at0 l 0) (at0 l (k+1)) (at0 l (k+2))=sX l (k+1)+Xr (at0 l (k+1)) (at0 l ((k+1+1)%l.length))-Xr (at0 l 0) (at0 l (k+1+1));rw [ygk k (by omega),oR_X,Zt h];grind
theorem shoe {l:List (Rat×Rat)} (h:2<=l.length):sX l l.length=fanN l (l.length-2):=by
 have e:=ygk (l:=l) (l.length-2) (by omega);rw [show l.length-2+1=l.length-1 by omega] at e;rw [e];have:sX l l.length=sX l (l.length-1)+Xr (at0 l (l.length-1)) (at0 l 0):=by
  conv=>lhs;rw [show l.length=(l.length-1)+1 by omega]
  show sX l (l.length-1)+Xr (at0 l (l.length-1)) (at0 l ((l.length-1+1)%l.length))=_;rw [show l.length-1+1=l.length by omega,Km]
 rw [this];unfold Xr;grind
theorem zpg (l:List (Rat×Rat)):pairsOf l=(List.range l.length).map fun i=>(at0 l i,at0 l ((i+1)%l.length)):=by
 refine Ji fun k=>?_;rcases Yw k l.length with q | q
 ·have gp:(pairsOf l)[k]? = some ((pairsOf l)[k]'(by rw [zbg];exact q)):=Ze _;refine xg (zii gp) fun g1 g2=>?_;rw [gp,Zj,G0 q,Y5];congr 1
  refine Yv ?_ ?_
  ·show _=l.getD k (0,0);rw [Zm,g1];rfl
  ·show _=l.getD ((k+1)%l.length) (0,0);rw [Zm,g2];rfl
 ·rw [Yz (by rw [zbg];exact q),Yz (by rw [Zd,Qw];exact q)]
section
variable {Γ:Nat->List D->Option W}
abbrev zea:List (Nat×(List D->Option W)):=[(9,zbv),(10,zci),(11,zam),(41,zdi)]
def zcp:List D->Option W:=run (tab zea) zdy 5
theorem ok_doubled (h9:Γ 9=zbv) (h10:Γ 10=zci) (h11:Γ 11=zam) (h41:Γ 41=zdi):∀ ds w,ds.length=1->zcp ds=some w->run Γ zdy 5 ds=some w:=fun ds w _ h=>zby zea (by
 intro p hp;simp only [zea,Zf,Wd,or_false] at hp;rcases hp with rfl | rfl | rfl | rfl <;> assumption) (by decide) ds w h
abbrev zmd:Ss:=(.cons (.asg 4 (.call 10 (.cons (.call 11 (.cons (.ix (.var 2) (.int 0)) (.cons (.ix (.var 3) (.int 1)) .nil))) (.cons (.call 11 (.cons (.ix (.var 3) (.int 0)) (.cons (.ix (.var 2) (.int 1)) .nil))) .nil)))) (.cons (.asg 1 (.call 9 (.cons (.var 1) (.cons (.var 4) .nil)))) .nil))
theorem zrs (h9:Γ 9=zbv) (h10:Γ 10=zci) (h11:Γ 11=zam) {l:List (Rat×Rat)} (hS:∀ i,i<=l.length->Sz 600 (sX l i)) (hz:∀ i,i<l.length->Sz 300 (at0 l i).1/\Sz 300 (at0 l i).2) (L:Option B) :
  ∀ (m i:Nat) (a b c:Option B),i+m=l.length->∃ a' b' c',forN (zbh (.tup [2,3])) (exs Γ zmd) ((List.range' i m).map fun i=>D.tup [stD (at0 l i),stD (at0 l ((i+1)%l.length))]) [L,some (.sh (fr (sX l i))),a,b,c]=some (.nx [L,some (.sh (fr (sX l l.length))),a',b',c'])
 | 0,i,a,b,c,h=>⟨a,b,c,by rw [show i=l.length by omega];rfl⟩
 | m+1,i,a,b,c,h=>by
  refine xq (zrs h9 h10 h11 hS hz L m (i+1) (some (.sh (stD (at0 l i)))) (some (.sh (stD (at0 l ((i+1)%l.length))))) (some (.sh (fr (Xr (at0 l i) (at0 l ((i+1)%l.length)))))) (by omega)) fun a' b' c' q=>?_;refine⟨a',b',c',?_⟩
  rw [Bs,Zz];unfold forN;have hj:(i+1)%l.length<l.length:=Qj _ (by omega);have zi:=hz i (by omega);have zj:=hz _ hj;have zS:=hS i (by omega);have zX:=(zi.1.mul zj.2).sub (zj.1.mul zi.2);have q1:zam [fr (at0 l i).1,fr (at0 l ((i+1)%l.length)).2]=some (.val (fr ((at0 l i).1*(at0 l ((i+1)%l.length)).2))):=zan (B9 zi.1 zj.2 (by decide) (by decide));have q2:zam [fr (at0 l ((i+1)%l.length)).1,fr (at0 l i).2]=some (.val (fr ((at0 l ((i+1)%l.length)).1*(at0 l i).2))):=zan (B9 zj.1 zi.2 (by decide) (by decide));have q3:zci [fr ((at0 l i).1*(at0 l ((i+1)%l.length)).2),fr ((at0 l ((i+1)%l.length)).1*(at0 l i).2)]=some (.val (fr (Xr (at0 l i) (at0 l ((i+1)%l.length))))):=zan (B9 (zi.1.mul zj.2) (zj.1.mul zi.2) (by decide) (by decide));have q4:zbv [fr (sX l i),fr (Xr (at0 l i) (at0 l ((i+1)%l.length)))]=some (.val (fr (sX l (i+1)))):=zan (B9 zS (show Sz (300+300+(300+300)+1) (Xr (at0 l i) (at0 l ((i+1)%l.length))) from zX) (by decide) (by decide));have ex1:exs Γ zmd [L,some (.sh (fr (sX l i))),some (.sh (stD (at0 l i))),some (.sh (stD (at0 l ((i+1)%l.length)))),c]=some (.nx [L,some (.sh (fr (sX l (i+1)))),some (.sh (stD (at0 l i))),some (.sh (stD (at0 l ((i+1)%l.length)))),some (.sh (fr (Xr (at0 l i) (at0 l ((i+1)%l.length)))))]):=by
   clear q zS zX zi zj hz hS h hj;unfold zmd stD;walk_at "evh"
  simp only [zsr,zdx,zjw,zjx,Y5,Yt];rw [ex1];exact q
end
open Sf
section
variable {Γ:Nat->List D->Option W}
theorem zps {l:List (Rat×Rat)} (hS:∀ i,i<=l.length->Sz 600 (sX l i)) (hz:∀ i,i<l.length->Sz 300 (at0 l i).1/\Sz 300 (at0 l i).2) (h1:1<=l.length) (hl:l.length<=200):zcp [.lst (l.map stD)]=some (.val (fr (sX l l.length))):=by
 unfold zcp;generalize hΓ:tab zea=Γ;have h9:Γ 9=zbv:=by rw [<- hΓ];rfl
 have h10:Γ 10=zci:=by rw [<- hΓ];rfl
 have h11:Γ 11=zam:=by rw [<- hΓ];rfl
 have h41:Γ 41=zdi:=by rw [<- hΓ];rfl
 have st:=zmv (L:=l.map stD) (by rw [Zd];exact h1) (by rw [Zd];omega);rw [zip_map,zpg,Wv] at st;refine xq (zrs h9 h10 h11 hS hz (some (.sh (.lst (l.map stD)))) l.length 0 none none none (by omega)) fun a' b' c' q=>?_;rw [<- Gq,show fr (sX l 0)=.tup [.int 0,.int 1] from rfl] at q;rw [show (List.range l.length).map (fun i=>D.tup [stD (at0 l i),stD (at0 l ((i+1)%l.length))])=(List.range l.length).map ((fun p=>D.tup [stD p.1,stD p.2]) ∘ fun i=>(at0 l i,at0 l ((i+1)%l.length))) from rfl] at q;generalize (List.range l.length).map ((fun p=>D.tup [stD p.1,stD p.2]) ∘ fun i=>(at0 l i,at0 l ((i+1)%l.length)))=Z at *;unfold zmd at q;generalize sX l l.length=A at *;clear hS hz h1 hl hΓ h9 h10 h11;have f5:∀ L:D,frz [some (B.sh L),some (B.sh (D.tup [D.int 0,D.int 1])),none,none,none]=[some (B.sh L),some (B.sh (D.tup [D.int 0,D.int 1])),none,none,none]:=fun _=>rfl
 unfold zdy;cases hz:lfL Z <;> walk_at "evh"
end
open Sf
def lv (a b:Int) (q:Rat×Rat):Rat:=(a:Rat)*q.1+(b:Rat)*q.2
theorem zqq {n:Nat} {a:Int} (h:a.natAbs<2^n) (hn:1<=n):Sz n (a:Rat):=⟨h,Zl (show 1<2^1 by decide) (zaq hn)⟩
theorem ybf {a b:Int} {q:Rat×Rat} (ha:a.natAbs<2^110) (hb:b.natAbs<2^110) (h1:Sz 165 q.1) (h2:Sz 165 q.2):Sz 700 (lv a b q):=
 (((zqq ha (by decide)).mul h1).add ((zqq hb (by decide)).mul h2)).mono (by decide)
def mx (a b:Int):Rat->List (Rat×Rat)->Rat
 | x,[]=>x
 | x,q::r=>mx a b (if x<lv a b q then lv a b q else x) r
theorem mx_ok (a b:Int):∀ (r:List (Rat×Rat)) (x:Rat),x<=mx a b x r/\(∀ q∈r,lv a b q<=mx a b x r)/\(mx a b x r=x\/∃ q∈r,mx a b x r=lv a b q)
 | [],x=>⟨Qe,fun q h=>(nomatch h),.inl rfl⟩
 | q::r,x=>by
  refine xi (mx_ok a b r (if x<lv a b q then lv a b q else x)) fun h1 h2 h3=>?_;have e:mx a b x (q::r)=mx a b (if x<lv a b q then lv a b q else x) r:=rfl;rw [e];by_cases c:x<lv a b q
  ·rw [if_pos c] at h1 h2 h3 |-;refine⟨Rat.le_trans (Z5 c) h1,fun z hz=>?_,?_⟩
   ·rcases Zf.mp hz with e | e
    ·rw [e];exact h1
    ·exact h2 z e
   ·rcases h3 with e | ⟨z,hz,e⟩
    ·exact .inr ⟨q,.head _,e⟩
    ·exact .inr ⟨z,.tail _ hz,e⟩
  ·rw [if_neg c] at h1 h2 h3 |-;refine⟨h1,fun z hz=>?_,?_⟩
   ·rcases Zf.mp hz with e | e
    ·rw [e];exact Rat.le_trans (Bm.mp c) h1
    ·exact h2 z e
   ·rcases h3 with e | ⟨z,hz,e⟩
    ·exact .inl e
    ·exact .inr ⟨z,.tail _ hz,e⟩
section
variable {Γ:Nat->List D->Option W}
abbrev zgx:List (Nat×(List D->Option W)):=[(9,zbv),(11,zam)]
def zgl:List D->Option W:=run (tab zgx) zjd 3
theorem ok_level (h9:Γ 9=zbv) (h11:Γ 11=zam):∀ ds w,ds.length=3->zgl ds=some w->run Γ zjd 3 ds=some w:=fun ds w _ h=>zby zgx (by
 intro p hp;simp only [zgx,Zf,Wd,or_false] at hp;rcases hp with rfl | rfl <;> assumption) (by decide) ds w h
theorem zny {a b:Int} {q:Rat×Rat} (ha:a.natAbs<2^110) (hb:b.natAbs<2^110) (h1:Sz 165 q.1) (h2:Sz 165 q.2):zgl [.int a,.int b,stD q]=some (.val (fr (lv a b q))):=by
 unfold zgl;generalize hΓ:tab zgx=Γ;have h9:Γ 9=zbv:=by rw [<- hΓ];rfl
 have h11:Γ 11=zam:=by rw [<- hΓ];rfl
 have sa:=zqq ha (by decide);have sb:=zqq hb (by decide);have q1:zam [.tup [.int a,.int 1],fr q.1]=some (.val (fr ((a:Rat)*q.1))):=zan (x:=(a:Rat)) (B9 sa h1 (by decide) (by decide));have q2:zam [.tup [.int b,.int 1],fr q.2]=some (.val (fr ((b:Rat)*q.2))):=zan (x:=(b:Rat)) (B9 sb h2 (by decide) (by decide));have q3:zbv [fr ((a:Rat)*q.1),fr ((b:Rat)*q.2)]=some (.val (fr (lv a b q))):=zan (B9 (sa.mul h1) (sb.mul h2) (by decide) (by decide));generalize fr (lv a b q)=O at *;generalize fr ((a:Rat)*q.1)=X at *;generalize fr ((b:Rat)*q.2)=Y at *;clear sa sb ha hb h1 h2 hΓ;unfold zjd stD;walk_at "evh"
abbrev zgw:List (Nat×(List D->Option W)):=[(50,zgl),(21,zcq)]
def zkb:List D->Option W:=run (tab zgw) zjc 6
theorem ok_reach (h50:Γ 50=zgl) (h21:Γ 21=zcq):∀ ds w,ds.length=3->zkb ds=some w->run Γ zjc 6 ds=some w:=fun ds w _ h=>zby zgw (by
 intro p hp;simp only [zgw,Zf,Wd,or_false] at hp;rcases hp with rfl | rfl <;> assumption) (by decide) ds w h
abbrev zfi:Ss:=(.cons (.asg 5 (.call 50 (.cons (.var 1) (.cons (.var 2) (.cons (.var 4) .nil))))) (.cons (.iff (.call 21 (.cons (.var 3) (.cons (.var 5) .nil))) (.cons (.asg 3 (.var 5)) .nil) .nil) .nil))
theorem zkc (h50:Γ 50=zgl) (h21:Γ 21=zcq) {a b:Int} (ha:a.natAbs<2^110) (hb:b.natAbs<2^110) (L:Option B):∀ (r:List (Rat×Rat)) (x:Rat) (c d:Option B),SzL 165 r->Sz 700 x ->
  ∃ c' d',forN (zbh (.name 4)) (exs Γ zfi) (r.map stD) [L,some (.sh (.int a)),some (.sh (.int b)),some (.sh (fr x)),c,d]=some (.nx [L,some (.sh (.int a)),some (.sh (.int b)),some (.sh (fr (mx a b x r))),c',d'])
 | [],x,c,d,_,_=>⟨c,d,rfl⟩
 | q::r,x,c,d,hz,hx=>by
  refine xg (hz q (.head _)) fun z1 z2=>?_;have sl:=ybf ha hb z1 z2;refine xl (zkc h50 h21 ha hb L r (if x<lv a b q then lv a b q else x) (some (.sh (stD q))) (some (.sh (fr (lv a b q)))) (fun y hy=>hz y (.tail _ hy)) (by split <;> assumption)) fun c' d' k=>?_;refine⟨c',d',?_⟩
  rw [Zz];unfold forN;have l1:=zny ha hb z1 z2;have b1:zcq [fr x,fr (lv a b q)]=some (.val (.bl (decide (x<lv a b q)))):=zan (B9 hx sl (by decide) (by decide));have ex1:exs Γ zfi [L,some (.sh (.int a)),some (.sh (.int b)),some (.sh (fr x)),some (.sh (stD q)),d]=some (.nx [L,some (.sh (.int a)),some (.sh (.int b)),some (.sh (fr (if x<lv a b q then lv a b q else x))),some (.sh (stD q)),some (.sh (fr (lv a b q)))]):=by
   clear k sl hz hx z1 z2 ha hb;unfold zfi;by_cases cc:x<lv a b q
   ·rw [decide_eq_true cc] at b1;rw [if_pos cc];clear cc;generalize stD q=Q at *;walk_at "evh"
   ·rw [decide_eq_false cc] at b1;rw [if_neg cc];clear cc;generalize stD q=Q at *;walk_at "evh"
  simp only [zfj,zjw,zjx,Y5,Yt];rw [ex1];exact k
theorem zwe {a b:Int} (ha:a.natAbs<2^110) (hb:b.natAbs<2^110) {q:Rat×Rat} {r:List (Rat×Rat)} (hz:SzL 165 (q::r)):zkb [.lst ((q::r).map stD),.int a,.int b]=some (.val (fr (mx a b (lv a b q) r))):=by
 unfold zkb;generalize hΓ:tab zgw=Γ;have h50:Γ 50=zgl:=by rw [<- hΓ];rfl
 have h21:Γ 21=zcq:=by rw [<- hΓ];rfl
 refine xg (hz q (.head _)) fun z1 z2=>?_;have l1:=zny ha hb z1 z2;refine xl (zkc h50 h21 ha hb (some (.sh (.lst ((q::r).map stD)))) r (lv a b q) none none (fun y hy=>hz y (.tail _ hy)) (ybf ha hb z1 z2)) fun c' d' k=>?_;have A0:L2.atI ((q::r).map stD) 0=some (stD q):=by rw [Zz,zgj (by decide) (by rw [Zk];omega)];rfl
 have ct:cutD ((q::r).map stD) (some 1) none=r.map stD:=by
  have:=zso (l:=(q::r).map stD) (a:=1) (by rw [Zd,Zk];omega)
  rw [show ((1:Nat):Int)=1 from rfl] at this;rw [this];rfl
 have lr:=zgc r;unfold zfi at k;generalize (q::r).map stD=LL at *;generalize r.map stD=RR at *;generalize stD q=Q at *;generalize mx a b (lv a b q) r=M at *;generalize lv a b q=X at *;clear z1 z2 hz ha hb hΓ;unfold zjc;walk_at "evh"
end
open Sf
theorem ybm {b f s:Int} (hb:1<=b) (hs:1<=s) {x y:Int×Int} (h:x≠y):spot b f s x≠spot b f s y:=fun e=>by
 have irr:∀ q:Rat×Rat,¬ ltR q q:=fun q h=>by
  rcases h with h | h
  ·exact Rat.lt_irrefl h
  ·exact Rat.lt_irrefl h.2
 rcases Hu.lt_tri x y with q | q | q
 ·have:=zpm (f:=f) hb hs q
  rw [e] at this;exact irr _ this
 ·exact h q
 ·have:=zpm (f:=f) hb hs q
  rw [e] at this;exact irr _ this
theorem yfu {b f s:Int} (hb:1<=b) (hs:1<=s):∀ {R:List (Int×Int)},R.Nodup->(R.map (spot b f s)).Nodup
 | [],_=>Up
 | x::R,h=>by
  rw [Wg] at h;rw [Zz,Wg];refine⟨fun hm=>?_,yfu hb hs h.2⟩
  refine xa (Z1.mp hm) fun y hy e=>?_;exact ybm hb hs (fun z=>h.1 (by rw [<- z];exact hy)) e
theorem ShapeBy.shp {m:Nat} {l:List (Rat×Rat)} {ps:List (Int×Int)} {b f s:Int} (h:ShapeBy m l ps b f s):IsShp l/\l.Nodup:=by
 refine xg (ztt (ps:=ps) h.pts.left) fun RO r3=>?_;rw [h.eq];exact⟨shp_of RO r3 h.b0 h.s0,yfu h.b0 h.s0 RO.nd⟩
theorem zkz (a b:Rat):a<b\/a=b\/b<a:=by
 by_cases h:a<b
 ·exact .inl h
 ·by_cases e:a=b
  ·exact .inr (.inl e)
  ·exact .inr (.inr (by grind))
theorem yfh {a b c:Rat} (h1:a<b) (h2:b<c):a<c:=by grind
theorem zpn (a:Rat×Rat):¬ ltR a a:=fun h=>by
 rcases h with h | ⟨_,h⟩ <;> exact Rat.lt_irrefl h
theorem zin {a b c:Rat×Rat} (h1:ltR a b) (h2:ltR b c):ltR a c:=by
 unfold ltR at *;rcases h1 with h1 | ⟨e1,h1⟩ <;> rcases h2 with h2 | ⟨e2,h2⟩
 ·exact .inl (yfh h1 h2)
 ·exact .inl (by rw [<- e2];exact h1)
 ·exact .inl (by rw [e1];exact h2)
 ·exact .inr ⟨e1.trans e2,yfh h1 h2⟩
theorem zxi (a b:Rat×Rat):ltR a b\/a=b\/ltR b a:=by
 rcases zkz a.1 b.1 with h | h | h
 ·exact .inl (.inl h)
 ·rcases zkz a.2 b.2 with k | k | k
  ·exact .inl (.inr ⟨h,k⟩)
  ·exact .inr (.inl (Yv h k))
  ·exact .inr (.inr (.inr ⟨h.symm,k⟩))
 ·exact .inr (.inr (.inl h))
theorem IsShp.map {l:List (Rat×Rat)} {f:Rat×Rat->Rat×Rat} (hS:IsShp l) (hl:∀ a b,ltR a b->ltR (f a) (f b)) (ho:∀ a b c,0<oR a b c->0<oR (f a) (f b) (f c)):IsShp (l.map f):=by
 refine⟨by rw [Zd];exact hS.three,fun k q0 q h0 hk=>?_,fun k a b c ha hb hc na nb=>?_⟩
 ·rw [Zj] at h0 hk;refine xa (Zb.mp h0) fun x hx e=>?_;refine xa (Zb.mp hk) fun y hy e2=>?_;rw [<- e,<- e2];exact hl _ _ (hS.first k x y hx hy)
 ·rw [Zd,Zj] at ha;rw [Zj] at hb;refine xa (Zb.mp ha) fun x hx e=>?_;refine xa (Zb.mp hb) fun y hy e2=>?_;refine xa (Z1.mp hc) fun z hz e3=>?_;rw [<- e,<- e2,<- e3];exact ho _ _ _ (hS.conv k x y z hx hy hz (fun q=>na (by rw [<- e3,q,e])) fun q=>nb (by rw [<- e3,q,e2]))
def pshR (p q:Rat×Rat):Rat×Rat:=(q.1+p.1,q.2+p.2)
def szR (k:Rat) (q:Rat×Rat):Rat×Rat:=(q.1*k,q.2*k)
def ngR (q:Rat×Rat):Rat×Rat:=(-q.1,-q.2)
theorem yjl {p a b:Rat×Rat} (h:ltR a b):ltR (pshR p a) (pshR p b):=by
 unfold ltR pshR at *;rcases h with h | ⟨e,h⟩
 ·exact .inl (by grind)
 ·exact .inr ⟨by grind,by grind⟩
theorem ltR_sz {k:Rat} (hk:0<k) {a b:Rat×Rat} (h:ltR a b):ltR (szR k a) (szR k b):=by
 unfold ltR szR at *;rcases h with h | ⟨e,h⟩
 ·exact .inl ((Qi hk).mpr h)
 ·exact .inr ⟨by rw [e],(Qi hk).mpr h⟩
theorem oR_psh (p a b c:Rat×Rat):oR (pshR p a) (pshR p b) (pshR p c)=oR a b c:=by unfold oR pshR;grind
theorem oR_sz (k:Rat) (a b c:Rat×Rat):oR (szR k a) (szR k b) (szR k c)=k*k*oR a b c:=by unfold oR szR;grind
theorem oR_ng (a b c:Rat×Rat):oR (ngR a) (ngR b) (ngR c)=oR a b c:=by unfold oR ngR;grind
theorem IsShp.push {l:List (Rat×Rat)} (hS:IsShp l) (p:Rat×Rat):IsShp (l.map (pshR p)):=hS.map (fun _ _ h=>yjl h) fun a b c h=>by rw [oR_psh];exact h
theorem IsShp.size {l:List (Rat×Rat)} (hS:IsShp l) {k:Rat} (hk:0<k):IsShp (l.map (szR k)):=hS.map (fun _ _ h=>ltR_sz hk h) fun a b c h=>by rw [oR_sz];exact Wa (Wa hk hk) h
def rot {α:Type} (l:List α) (k:Nat):List α:=l.drop k++l.take k
theorem zig {α:Type} {l:List α} {k:Nat}:(rot l k).length=l.length:=by
 unfold rot;rw [Zs,Yr,W9];omega
theorem zkw {α:Type} {l:List α} {k i:Nat} (hk:k<l.length) (hi:i<l.length):(rot l k)[i]? = l[(i+k)%l.length]?:=by
 unfold rot;rcases Yw (i+k) l.length with h | h
 ·rw [Z4 (by rw [Yr];omega),K0,Zt h,Ve]
 ·rw [Zx (by rw [Yr];omega),Yr,Jh (by omega),Bc h,Zt (by omega)];congr 1
  omega
theorem rot_mem {α:Type} {l:List α} {k:Nat} {x:α}:x∈rot l k↔x∈l:=by
 unfold rot;rw [Y6,Or.comm,<- Y6,Jy]
theorem yhz {α β:Type} (f:α->β) (l:List α) (k:Nat):(rot l k).map f=rot (l.map f) k:=by
 unfold rot;rw [Ys,Uz,V5]
structure Fst (l:List (Rat×Rat)) (k:Nat):Prop where
 lt:k<l.length
 low:∀ j p q,j≠k->l[k]? = some p->l[j]? = some q->ltR p q
theorem Fst.uniq {l:List (Rat×Rat)} {k j:Nat} (h:Fst l k) (g:Fst l j):k=j:=by
 refine Yf fun ne=>?_;have a:=h.low j _ _ (Wk ne) (Ze h.lt) (Ze g.lt);have b:=g.low k _ _ ne (Ze g.lt) (Ze h.lt);exact zpn _ (zin a b)
theorem IsShp.fst {l:List (Rat×Rat)} (hS:IsShp l):Fst l 0:=⟨by have:=hS.three;omega,fun j p q hj h0 h1=>by
 cases j with
 | zero=>exact absurd rfl hj
 | succ j=>exact hS.first j p q h0 h1⟩
theorem IsShp.of_rot {l:List (Rat×Rat)} {k:Nat} (h3:3<=l.length) (conv:∀ k a b c,l[(k+l.length-1)%l.length]? = some a->l[k]? = some b->c∈l->c≠a->c≠b->0<oR a b c) (hk:Fst l k):IsShp (rot l k):=by
 have kl:=hk.lt;refine⟨by rw [zig];exact h3,fun j q0 q h0 hj=>?_,fun j a b c ha hb hc na nb=>?_⟩
 ·have hj1:j+1<l.length:=by
   have:=(Zn.mp hj).1
   rw [zig] at this;exact this
  rw [zkw kl (by omega),Y8,Zt kl] at h0;rw [zkw kl hj1] at hj;refine hk.low _ _ _ ?_ h0 hj;rcases Yw (j+1+k) l.length with z | z
  ·rw [Zt z];omega
  ·rw [Bc z,Zt (by omega)];omega
 ·have hjl:j<l.length:=by
   have:=(Zn.mp hb).1
   rw [zig] at this;exact this
  rw [zig,zkw kl (Qj _ (by omega))] at ha;rw [zkw kl hjl] at hb;rw [rot_mem] at hc;refine conv ((j+k)%l.length) a b c ?_ hb hc na nb;rw [<- ha];congr 1
  have e:((j+k)%l.length+l.length-1)%l.length=((j+k)%l.length+(l.length-1))%l.length:=by congr 1;omega
  rw [e,Uv,Nat.mod_mod,<- Uv,Uv ((j+l.length-1)%l.length),Nat.mod_mod,<- Uv];congr 1
  omega
theorem ykr {l:List (Rat×Rat)} (hS:IsShp l):∀ k a b c,(l.map ngR)[(k+(l.map ngR).length-1)%(l.map ngR).length]? = some a->(l.map ngR)[k]? = some b->c∈l.map ngR->c≠a->c≠b->0<oR a b c:=fun k a b c ha hb hc na nb=>by
 rw [Zd,Zj] at ha;rw [Zj] at hb;refine xa (Zb.mp ha) fun x hx e=>?_;refine xa (Zb.mp hb) fun y hy e2=>?_;refine xa (Z1.mp hc) fun z hz e3=>?_;rw [<- e,<- e2,<- e3,oR_ng];exact hS.conv k x y z hx hy hz (fun q=>na (by rw [<- e3,q,e])) fun q=>nb (by rw [<- e3,q,e2])
def low (l:List (Rat×Rat)):Nat->Nat->Nat
 | 0,f=>f
 | n+1,f=>open Classical in low l n (if ltR (l.getD (l.length-(n+1)) (0,0)) (l.getD f (0,0)) then l.length-(n+1) else f)
theorem zxm {l:List (Rat×Rat)} (nd:l.Nodup):∀ (n f:Nat),n<=l.length->f<l.length->(∀ j,j<l.length-n->j≠f->ltR (l.getD f (0,0)) (l.getD j (0,0)))->Fst l (low l n f)
 | 0,f,_,hf,h=>⟨hf,fun j p q hj h0 h1=>by
  have jl:=(Zn.mp h1).1;have:=h j jl hj
  rw [Zm,Zm] at this;unfold low at h0;rw [h0,h1] at this;exact this⟩
 | n+1,f,hn,hf,h=>by
  unfold low;have ne:∀ i j,i<l.length->j<l.length->i≠j->l.getD i (0,0)≠l.getD j (0,0):=fun i j hi hj hij e=>by
   rw [Zm,Zm,Ze hi,Ze hj] at e;exact hij ((Ko nd).mp e)
  split
  ·rename_i c;refine zxm nd n _ (by omega) (by omega) fun j hj hne=>?_;by_cases e:j=f
   ·rw [e];exact c
   ·exact zin c (h j (by omega) e)
  ·rename_i c;refine zxm nd n f (by omega) hf fun j hj hne=>?_;by_cases e:j=l.length-(n+1)
   ·rw [<- e] at c;rcases zxi (l.getD f (0,0)) (l.getD j (0,0)) with t | t | t
    ·exact t
    ·exact absurd t (ne _ _ hf (by omega) (Wk hne))
    ·exact absurd t c
   ·exact h j (by omega) hne
open Sf
theorem cutTo {l:List D} {a:Nat} (h:a<=l.length):cutD l none (some (a:Int))=l.take a:=by
 unfold cutD;rw [HT.sIx_none,HT.sIx_nat,Jc,Uf,Ug h]
theorem zpx {l:List D} {a:Nat} (h:a<=l.length):cutD l (some (a:Int)) none=l.drop a:=by
 unfold cutD;rw [HT.sIx_none,HT.sIx_nat,Ug h,Ju (by rw [Yr];exact Zg _)]
section
variable {Γ:Nat->List D->Option W}
abbrev zkq:List (Nat×(List D->Option W)):=[(9,zbv)]
def zdr:List D->Option W:=run (tab zkq) zjg 2
theorem ok_added (h9:Γ 9=zbv):∀ ds w,ds.length=2->zdr ds=some w->run Γ zjg 2 ds=some w:=fun ds w _ h=>zby zkq (by
 intro p hp;rcases Zu.mp hp with rfl;exact h9) (by decide) ds w h
theorem zot {q p:Rat×Rat} (hq:Sz 165 q.1/\Sz 165 q.2) (hp:Sz 200 p.1/\Sz 200 p.2):zdr [stD q,stD p]=some (.val (stD (pshR p q))):=by
 unfold zdr;generalize hΓ:tab zkq=Γ;have h9:Γ 9=zbv:=by rw [<- hΓ];rfl
 have q1:zbv [fr q.1,fr p.1]=some (.val (fr (q.1+p.1))):=zan (B9 hq.1 hp.1 (by decide) (by decide));have q2:zbv [fr q.2,fr p.2]=some (.val (fr (q.2+p.2))):=zan (B9 hq.2 hp.2 (by decide) (by decide));show _=some (W.val (.tup [fr (q.1+p.1),fr (q.2+p.2)]));generalize fr (q.1+p.1)=X at *;generalize fr (q.2+p.2)=Y at *;clear hq hp hΓ;unfold zjg stD;walk_at "evh"
abbrev zhy:List (Nat×(List D->Option W)):=[(67,zdr)]
def zdq:List D->Option W:=run (tab zhy) zeh 2
theorem ok_pushed (h67:Γ 67=zdr):∀ ds w,ds.length=2->zdq ds=some w->run Γ zeh 2 ds=some w:=fun ds w _ h=>zby zhy (by
 intro p hp;rcases Zu.mp hp with rfl;exact h67) (by decide) ds w h
theorem zfw {l:List (Rat×Rat)} {p:Rat×Rat} (hl:l.length<=1000) (hz:SzL 165 l) (hp:Sz 200 p.1/\Sz 200 p.2):zdq [.lst (l.map stD),stD p]=some (.new ((l.map (pshR p)).map stD)):=by
 unfold zdq;generalize hΓ:tab zhy=Γ;have h67:Γ 67=zdr:=by rw [<- hΓ];rfl
 have hcomp:ev Γ (.comp (.call 67 (.cons (.var 1) (.cons (.var 2) .nil))) (.name 1) (.seqV 0) 2 [1] .non) [some (.lst (l.map stD)),some (stD p)]=some (.new (l.map fun q=>stD (pshR p q))):=by
  refine zes (g:=stD) ?_ (by rw [Y7];omega) rfl fun q hq=>?_
  ·generalize stD p=P;clear hz hp hΓ;walk_at "evh"
  ·have a:=zot (hz q hq) hp;generalize stD (pshR p q)=O at *;generalize stD q=Q at *;generalize stD p=P at *;generalize l.map stD=LL at *;clear hz hp hΓ hq;walk_at "evh"
 rw [Wv];show run Γ zeh 2 _=some (.new (l.map fun q=>stD (pshR p q)));generalize (l.map fun q=>stD (pshR p q))=O at *;generalize stD p=P at *;generalize l.map stD=LL at *;unfold zeh;generalize hce:E.comp _ _ _ _ _ _=ce at *;clear hz hp hΓ hl hce;walk_at "evh"
end
open Sf
theorem ygi (x y:Rat):cmpD .eq (fr x) (fr y)=some (decide (x=y)):=by
 have d:∀ z:Rat,dOkL 49 [D.int z.num,D.int (z.den:Int)]=true:=fun _=>rfl
 show (if (dOkL 49 [.int x.num,.int (x.den:Int)] && dOkL 49 [.int y.num,.int (y.den:Int)])=true then some (eqL [.int x.num,.int (x.den:Int)] [.int y.num,.int (y.den:Int)]) else none)=_;rw [d,d,Gb,if_pos rfl];congr 1
 simp only [eqL,eqD,Bool.and_true];by_cases h:x=y
 ·subst h;simp
 ·have:¬ (x.num=y.num/\(x.den:Int)=(y.den:Int)):=fun hz=>xg hz fun h1 h2=>h (Rat.ext h1 (by omega))
  rw [decide_eq_false h];exact Bool.eq_false_iff.mpr fun e=>this (by simpa using e)
def ltB (a b:Rat×Rat):Bool:=if a.1=b.1 then decide (a.2<b.2) else decide (a.1<b.1)
theorem zxk (a b:Rat×Rat):ltB a b=true↔ltR a b:=by
 unfold ltB ltR;by_cases h:a.1=b.1
 ·rw [if_pos h,decide_eq_true_eq];refine⟨fun k=>.inr ⟨h,k⟩,fun k=>?_⟩
  rcases k with k | k
  ·rw [h] at k;exact absurd k Rat.lt_irrefl
  ·exact k.2
 ·rw [if_neg h,decide_eq_true_eq];refine⟨fun k=>.inl k,fun k=>?_⟩
  rcases k with k | k
  ·exact k
  ·exact absurd k.1 h
section
variable {Γ:Nat->List D->Option W}
abbrev zkp:List (Nat×(List D->Option W)):=[(21,zcq)]
def zek:List D->Option W:=run (tab zkp) zjf 2
theorem ok_ahead (h21:Γ 21=zcq):∀ ds w,ds.length=2->zek ds=some w->run Γ zjf 2 ds=some w:=fun ds w _ h=>zby zkp (by
 intro p hp;rcases Zu.mp hp with rfl;exact h21) (by decide) ds w h
theorem yad {a b:Rat×Rat} (ha:Sz 165 a.1/\Sz 165 a.2) (hb:Sz 165 b.1/\Sz 165 b.2):zek [stD a,stD b]=some (.val (.bl (ltB a b))):=by
 unfold zek;generalize hΓ:tab zkp=Γ;have h21:Γ 21=zcq:=by rw [<- hΓ];rfl
 have b1:zcq [fr a.1,fr b.1]=some (.val (.bl (decide (a.1<b.1)))):=zan (B9 ha.1 hb.1 (by decide) (by decide));have b2:zcq [fr a.2,fr b.2]=some (.val (.bl (decide (a.2<b.2)))):=zan (B9 ha.2 hb.2 (by decide) (by decide));have c1:=ygi a.1 b.1;unfold ltB zjf stD;by_cases h:a.1=b.1
 ·rw [if_pos h];rw [decide_eq_true h] at c1;generalize decide (a.2<b.2)=V at *;generalize fr a.1=A1 at *;generalize fr b.1=B1 at *;generalize fr a.2=A2 at *;generalize fr b.2=B2 at *;clear ha hb hΓ b1 h;walk_at "evh"
 ·rw [if_neg h];rw [decide_eq_false h] at c1;generalize decide (a.1<b.1)=V at *;generalize fr a.1=A1 at *;generalize fr b.1=B1 at *;generalize fr a.2=A2 at *;generalize fr b.2=B2 at *;clear ha hb hΓ b2 h;walk_at "evh"
abbrev zoi:Ss:=(.cons (.iff (.call 70 (.cons (.ix (.var 0) (.var 2)) (.cons (.ix (.var 0) (.var 1)) .nil))) (.cons (.asg 1 (.var 2)) .nil) .nil) .nil)
theorem at_st {l:List (Rat×Rat)} {k:Nat} (h:k<l.length):L2.atI (l.map stD) (k:Int)=some (stD (l.getD k (0,0))):=by
 rw [zgj (Kg k) (by rw [Zd];omega),Kk,Zj,Ze h,Zm,Ze h];rfl
theorem zsa {l:List (Rat×Rat)} {k:Nat} (h:k<l.length):l.getD k (0,0)∈l:=by
 rw [Zm,Ze h];exact Js h
theorem yka (h70:Γ 70=zek) {LL:List D} {k f:Int} {x y:D} {b:Bool} (a1:L2.atI LL k=some x) (a2:L2.atI LL f=some y) (h:zek [x,y]=some (.val (.bl b))):exs Γ zoi [some (.sh (.lst LL)),some (.sh (.int f)),some (.sh (.int k))]=some (.nx [some (.sh (.lst LL)),some (.sh (.int (if b=true then k else f))),some (.sh (.int k))]):=by
 unfold zoi;cases b with
 | true=>
  rw [if_pos rfl];walk_at "evh"
 | false=>
  rw [if_neg Z2];walk_at "evh"
theorem zyl (h70:Γ 70=zek) {l:List (Rat×Rat)} (hz:SzL 165 l):∀ (n f:Nat) (c:Option B),n<=l.length->f<l.length ->
  ∃ c',forN (zbh (.name 2)) (exs Γ zoi) ((List.range' (l.length-n) n).map fun (i:Nat)=>D.int (0+(i:Int))) [some (.sh (.lst (l.map stD))),some (.sh (.int (f:Int))),c]=some (.nx [some (.sh (.lst (l.map stD))),some (.sh (.int (low l n f:Nat))),c'])
 | 0,f,c,_,_=>⟨c,rfl⟩
 | n+1,f,c,hn,hf=>by
  have hk:l.length-(n+1)<l.length:=by omega
  have ah:=yad (hz _ (zsa hk)) (hz _ (zsa hf));have st:=yka h70 (at_st hk) (at_st hf) ah;have e:(if ltB (l.getD (l.length-(n+1)) (0,0)) (l.getD f (0,0))=true then ((l.length-(n+1):Nat):Int) else (f:Int))=((if ltB (l.getD (l.length-(n+1)) (0,0)) (l.getD f (0,0))=true then l.length-(n+1) else f:Nat):Int):=by split <;> rfl
  rw [e] at st;have lw:low l (n+1) f=low l n (if ltB (l.getD (l.length-(n+1)) (0,0)) (l.getD f (0,0))=true then l.length-(n+1) else f):=by
   conv=>lhs;unfold low
   congr 1
   by_cases q:ltB (l.getD (l.length-(n+1)) (0,0)) (l.getD f (0,0))=true
   ·rw [if_pos q,if_pos ((zxk _ _).mp q)]
   ·rw [if_neg q,if_neg fun z=>q ((zxk _ _).mpr z)]
  refine xb (zyl h70 hz n (if ltB (l.getD (l.length-(n+1)) (0,0)) (l.getD f (0,0))=true then l.length-(n+1) else f) (some (.sh (.int ((l.length-(n+1):Nat):Int)))) (by omega) (by split <;> omega)) fun c' k=>?_;refine⟨c',?_⟩
  rw [Bs,Zz,lw,show l.length-(n+1)+1=l.length-n by omega];unfold forN;rw [Int.zero_add];simp only [zfj,zjx,zjw,Y5,Yt];rw [st];exact k
abbrev yhh:List (Nat×(List D->Option W)):=[(70,zek)]
def mFF:List D->Option W:=run (tab yhh) zbd 3
theorem ok_from_first (h70:Γ 70=zek):∀ ds w,ds.length=1->mFF ds=some w->run Γ zbd 3 ds=some w:=fun ds w _ h=>zby yhh (by
 intro p hp;rcases Zu.mp hp with rfl;exact h70) (by decide) ds w h
theorem ff_run {LL L1 L2':List D} {f M:Int} {Z:List D} {c':Option B} (hM:(LL.length:Int)=M) (hr:(-4611686018427387904<=M/\M<4611686018427387904)=True) (rg:zbk 0 M.toNat=Z)
  (k:forN (zbh (.name 2)) (exs Γ zoi) Z [some (.sh (.lst LL)),some (.sh (.int 0)),none]=some (.nx [some (.sh (.lst LL)),some (.sh (.int f)),c'])) (c1:cutD LL (some f) none=L1) (c2:cutD LL none (some f)=L2') (ad:opW .add (.lst L1) (.lst L2')=some (.new (L1++L2'))) :
  run Γ zbd 3 [.lst LL]=some (.new (L1++L2')):=by
 unfold zoi at k;unfold zbd;walk_at "evh"
theorem ff_int {l:List (Rat×Rat)} (hz:SzL 165 l) (h1:1<=l.length) (hl:l.length<=1000):mFF [.lst (l.map stD)]=some (.new ((rot l (low l l.length 0)).map stD)):=by
 unfold mFF;generalize hΓ:tab yhh=Γ;have h70:Γ 70=zek:=by rw [<- hΓ];rfl
 refine xb (zyl h70 hz l.length 0 none (Zg _) h1) fun c' k=>?_;rw [Qu,<- Gq] at k;have lt:∀ (n f:Nat),n<=l.length->f<l.length->low l n f<l.length:=by
  intro n;induction n with
  | zero=>intro f _ hf;exact hf
  | succ n ih=>
   intro f hn hf;unfold low;refine ih _ (by omega) ?_;split <;> omega
 have fl:=lt l.length 0 (Zg _) h1;rw [yhz];refine ff_run (M:=(l.length:Int)) (by rw [Zd]) (eq_true (by omega)) (by rw [Kk];rfl) k (zpx (by rw [Zd];omega)) (cutTo (by rw [Zd];omega)) ?_;show (if _ then some (W.new _) else none)=_;rw [if_pos (by rw [Y7,Yr,W9,Zd];omega)]
abbrev zhw:List (Nat×(List D->Option W)):=[(71,mFF)]
def zep:List D->Option W:=run (tab zhw) zfn 1
theorem ok_turned (h71:Γ 71=mFF):∀ ds w,ds.length=1->zep ds=some w->run Γ zfn 1 ds=some w:=fun ds w _ h=>zby zhw (by
 intro p hp;rcases Zu.mp hp with rfl;exact h71) (by decide) ds w h
abbrev ydw:E:=(.comp (.tup (.cons (.tup (.cons (.neg (.ix (.var 1) (.int 0))) (.cons (.ix (.var 1) (.int 1)) .nil))) (.cons (.tup (.cons (.neg (.ix (.var 2) (.int 0))) (.cons (.ix (.var 2) (.int 1)) .nil))) .nil))) (.tup [1,2]) (.seqV 0) 3 [] .non)
theorem zsy {φ:List D->Option W} (h71:Γ 71=φ) {LL NN O:List D} (hcomp:ev Γ ydw [some (.lst LL)]=some (.new NN)) (ff:φ [.lst NN]=some (.new O)):run Γ zfn 1 [.lst LL]=some (.new O):=by
 show run Γ (.cons (.ret (.call 71 (.cons ydw .nil))) .nil) 1 [.lst LL]=some (.new O);generalize ydw=ce at *;walk_at "evh"
theorem zoy {l:List (Rat×Rat)} (hl:l.length<=1000):ev Γ ydw [some (.lst (l.map stD))]=some (.new ((l.map ngR).map stD)):=by
 rw [Wv];refine zes (g:=stD) (h:=fun q=>stD (ngR q)) ?_ (by rw [Y7];omega) rfl fun q hq=>?_
 ·generalize l.map stD=LL;walk_at "evh"
 ·show _=some (some (D.tup [D.tup [.int (-q.1.num),.int (q.1.den:Int)],D.tup [.int (-q.2.num),.int (q.2.den:Int)]]));generalize l.map stD=LL;unfold stD fr;walk_at "evh"
theorem zfr {l:List (Rat×Rat)} (hz:SzL 165 l) (h1:1<=l.length) (hl:l.length<=1000):zep [.lst (l.map stD)]=some (.new ((rot (l.map ngR) (low (l.map ngR) (l.map ngR).length 0)).map stD)):=by
 unfold zep;generalize hΓ:tab zhw=Γ;have h71:Γ 71=mFF:=by rw [<- hΓ];rfl
 have zn:SzL 165 (l.map ngR):=fun q hq=>by
  refine xa (Z1.mp hq) fun p hp e=>?_;subst e;exact⟨(hz p hp).1.neg,(hz p hp).2.neg⟩
 exact zsy h71 (zoy hl) (ff_int zn (by rw [Zd];exact h1) (by rw [Zd];exact hl))
end
open Sf
section
variable {Γ:Nat->List D->Option W}
abbrev zko:List (Nat×(List D->Option W)):=[(29,zbl),(2,zcj),(13,zbu)]
def zxg:List D->Option W:=run (tab zko) zax 6
theorem ok_law_push_k16 (h29:Γ 29=zbl) (h2:Γ 2=zcj) (h13:Γ 13=zbu):∀ ds w,ds.length=2->zxg ds=some w->run Γ zax 6 ds=some w:=fun ds w _ h=>zby zko (by
 intro p hp;simp only [zko,Zf,Wd,or_false] at hp;rcases hp with rfl | rfl | rfl <;> assumption) (by decide) ds w h
theorem ycf {φ χ ψ:List D->Option W} (h29:Γ 29=φ) (h2:Γ 2=χ) (h13:Γ 13=ψ) {NS:List D} {k r c v:Int} {x y z:D} (hr:φ [.lst NS,.int k]=some (.val (.int r))) (hc:χ [.lst NS,.int k]=some (.val (.int c)))
  (a1:L2.atI [D.int 1,D.int (1+c%1000000000)] (r%2)=some (.int v)) (r1:ψ [.int (r%41-20),.int (1+r/41%9)]=some (.val x)) (r2:ψ [.int (c%2000000000000000000000000000000-1000000000000000000000000000000),.int v]=some (.val y)) (lx:lf x=true) (ly:lf y=true)
  (a2:L2.atI [D.tup [x,y],D.tup [y,x],D.tup [x,x]] (r/369%3)=some z):run Γ zax 6 [.lst NS,.int k]=some (.val z):=by
 have m1:zap 2 1000000000000000000000000000000=true:=zah (by decide) (by decide) (by decide) (by decide);unfold zax;walk_at "evh"
structure Sy (a b:Nat) (x:Rat):Prop where
 t:x.num.natAbs<2^a
 b:x.den<2^b
theorem Sy.sz {a b n:Nat} {x:Rat} (h:Sy a b x) (ha:a<=n) (hb:b<=n):Sz n x:=⟨Zl h.t (zaq ha),Zl h.b (zaq hb)⟩
theorem Sy.mono {a b c d:Nat} {x:Rat} (h:Sy a b x) (ha:a<=c) (hb:b<=d):Sy c d x:=⟨Zl h.t (zaq ha),Zl h.b (zaq hb)⟩
theorem zeo {x:Rat} {p q:Int} {m n:Nat} (hq:q≠0) (e:x=Rat.divInt p q) (hp:p.natAbs<2^m) (hb:q.natAbs<2^n):Sy m n x:=by
 refine xg ((zdg x).cross_le hq ((zqz hq).mp e)) fun a b=>?_;exact⟨Wb a hp,by have:=b;omega⟩
theorem zms {t b:Int} {m n:Nat} (h:b≠0) (ht:t.natAbs<2^m) (hb:b.natAbs<2^n):Sy m n (Rat.divInt t b):=zeo h rfl ht hb
theorem Sy.mul {a b c d:Nat} {x y:Rat} (hx:Sy a b x) (hy:Sy c d y):Sy (a+c) (b+d) (x*y):=by
 have p:(x.den:Int)≠0:=by have:=x.den_nz;omega
 have q:(y.den:Int)≠0:=by have:=y.den_nz;omega
 refine zeo (Yb p q) (zpi x y) ?_ ?_
 ·rw [Wj];exact zcz hx.t hy.t
 ·rw [Wj];exact zcz hx.b hy.b
theorem Sy.add {a b c d k:Nat} {x y:Rat} (hx:Sy a b x) (hy:Sy c d y) (h1:a+d<=k) (h2:c+b<=k):Sy (k+1) (b+d) (x+y):=by
 have p:(x.den:Int)≠0:=by have:=x.den_nz;omega
 have q:(y.den:Int)≠0:=by have:=y.den_nz;omega
 have e:x+y=Rat.divInt (x.num*y.den+y.num*x.den) (x.den*y.den):=by
  conv=>lhs;rw [<- Yx x,<- Yx y]
  exact Kl _ _ p q
 refine zeo (Yb p q) e ?_ ?_
 ·have t1:(x.num*y.den).natAbs<2^k:=by rw [Wj];exact Zl (zcz hx.t hy.b) (zaq h1)
  have t2:(y.num*x.den).natAbs<2^k:=by rw [Wj];exact Zl (zcz hy.t hx.b) (zaq h2)
  exact Wb (Jk _ _) (by rw [Ja,G4];exact V2 t1 t2)
 ·rw [Wj];exact zcz hx.b hy.b
theorem Sy.neg {a b:Nat} {x:Rat} (hx:Sy a b x):Sy a b (-x):=⟨by show (-x.num).natAbs<_;rw [V3];exact hx.t,hx.b⟩
theorem d100 {a:Int} (h0 : -1000000000000000000000000000001<a) (h1:a<1000000000000000000000000000001):a.natAbs<2^100:=by
 have:(1000000000000000000000000000001:Nat)<2^100:=by decide +kernel
 omega
theorem d30 {a:Int} (h0:0<=a) (h1:a<=1000000000):a.natAbs<2^30:=by
 have:(1000000000:Nat)<2^30:=by decide +kernel
 omega
theorem d200 {a:Int} (h0 : -1000000000000000000000000000001<a) (h1:a<1000000000000000000000000000001):a.natAbs<2^200:=by
 have:(1000000000000000000000000000001:Nat)<2^200:=by decide +kernel
 omega
theorem ycg (ns:List Int) (k:Nat) (hk:k<=100):∃ p,zxg [.lst (ns.map D.int),.int (k:Int)]=some (.val (stD p))/\Sy 100 30 p.1/\Sy 100 30 p.2:=by
 unfold zxg;generalize hΓ:tab zko=Γ;have h29:Γ 29=zbl:=by rw [<- hΓ];rfl
 have h2:Γ 2=zcj:=by rw [<- hΓ];rfl
 have h13:Γ 13=zbu:=by rw [<- hΓ];rfl
 refine xh (zda ns k (by omega)) fun r hr _ _=>?_;refine xb (zhg (ns:=ns) (k:=k)) fun c hc=>?_;refine xa (zqb (a:=D.int 1) (b:=D.int (1+c%1000000000)) (i:=r%2) (by omega) (by omega)) fun v g1 g1'=>?_;obtain⟨s,hs,s0,s1⟩:∃ x:Int,v=.int x/\1<=x/\x<=1000000000:=by
  clear hr hc g1 hΓ;rcases g1' with e | e
  ·exact⟨_,e,by decide,by decide⟩
  ·exact⟨_,e,by omega,by omega⟩
 subst hs;clear g1';have b0:1+r/41%9≠0:=by omega
 have b1:(1+r/41%9).natAbs<2^200:=d200 (by omega) (by omega);have b2:s.natAbs<2^200:=d200 (by omega) (by omega);have up:∀ {a:Int},a.natAbs<2^200->a.natAbs<2^9000:=fun h=>Zl h (Ku (by decide) (by decide))
 have r1:=zfd (t:=r%41-20) b0 (up b1);have r2:=zfd (t:=c%2000000000000000000000000000000-1000000000000000000000000000000) (b:=s) (by omega) (up b2);have z1:Sy 100 30 (Rat.divInt (r%41-20) (1+r/41%9)):=zms b0 (d100 (by omega) (by omega)) (d30 (by omega) (by omega));have z2:Sy 100 30 (Rat.divInt (c%2000000000000000000000000000000-1000000000000000000000000000000) s):=zms (by omega) (d100 (by omega) (by omega)) (d30 (by omega) (by omega));generalize Rat.divInt (r%41-20) (1+r/41%9)=x at *;generalize Rat.divInt (c%2000000000000000000000000000000-1000000000000000000000000000000) s=y at *;refine xa (zzw (a:=D.tup [fr x,fr y]) (b:=D.tup [fr y,fr x]) (c:=D.tup [fr x,fr x]) (i:=r/369%3) (by omega) (by omega)) fun z g2 g2'=>?_;have rn:=ycf h29 h2 h13 hr hc g1 r1 r2 rfl rfl g2;rcases g2' with e | e | e
 ·exact⟨(x,y),by rw [rn,e];rfl,z1,z2⟩
 ·exact⟨(y,x),by rw [rn,e];rfl,z2,z1⟩
 ·exact⟨(x,x),by rw [rn,e];rfl,z1,z1⟩
end
namespace Mg
open DL
abbrev V:=Rat×Rat
def xr (u v:V):Rat:=u.1*v.2-u.2*v.1
def mn (a b:V):V:=(a.1-b.1,a.2-b.2)
def pl (a b:V):V:=(a.1+b.1,a.2+b.2)
def ng (u:V):V:=(-u.1,-u.2)
def up (u:V):Prop:=0<u.1\/(u.1=0/\0<u.2)
theorem B8 (u v:V):xr u v = - xr v u:=by unfold xr;grind
theorem zhm (u v:V):xr (ng u) v = - xr u v:=by unfold xr ng;grind
theorem zjr (u v:V):xr u (ng v) = - xr u v:=by unfold xr ng;grind
theorem zun (u v:V):xr (ng u) (ng v)=xr u v:=by unfold xr ng;grind
theorem zbe (u v w:V):xr u (pl v w)=xr u v+xr u w:=by unfold xr pl;grind
theorem zji (u v w:V):xr (pl u v) w=xr u w+xr v w:=by unfold xr pl;grind
theorem nn_of_mul {a b:Rat} (hb:0<b) (h:0<=a*b):0<=a:=by
 by_cases k:0<=a
 ·exact k
 ·have:=Wa (show 0 < -a by grind) hb
  grind
theorem up_1 {u:V} (h:up u):0<=u.1:=by rcases h with h | h <;> grind
theorem tr_le {u v w:V} (hu:up u) (hv:up v) (hw:up w) (h1:0<=xr u v) (h2:0<=xr v w):0<=xr u w:=by
 have u1:=up_1 hu;have w1:=up_1 hw;rcases hv with hv | ⟨v1,v2⟩
 ·refine nn_of_mul hv ?_;have e:xr u w*v.1=xr u v*w.1+xr v w*u.1:=by unfold xr;grind
  rw [e];have a:=Zo h1 w1;have b:=Zo h2 u1;grind
 ·have w0:w.1=0:=by
   have a:=Zo (Z5 v2) w1;have e:xr v w = - (v.2*w.1):=by unfold xr;rw [v1];grind
   by_cases k:w.1=0
   ·exact k
   ·have:=Wa v2 (show 0<w.1 by grind)
    grind
  have w2:0<w.2:=by rcases hw with h | h <;> grind
  have e:xr u w=u.1*w.2:=by unfold xr;rw [w0];grind
  rw [e];exact Zo u1 (Z5 w2)
theorem tr_lt1 {u v w:V} (hu:up u) (hv:up v) (hw:up w) (h1:0<xr u v) (h2:0<=xr v w):0<xr u w:=by
 by_cases k:0<xr u w
 ·exact k
 ·have:=tr_le hv hw hu h2 (by rw [B8];grind)
  rw [B8] at this;grind
theorem tr_lt2 {u v w:V} (hu:up u) (hv:up v) (hw:up w) (h1:0<=xr u v) (h2:0<xr v w):0<xr u w:=by
 by_cases k:0<xr u w
 ·exact k
 ·have:=tr_le hw hu hv (by rw [B8];grind) h1
  rw [B8] at this;grind
def bf (u v:V):Prop:=(up u/\up (ng v))\/(up u/\up v/\0<xr u v)\/(up (ng u)/\up (ng v)/\0<xr u v)
def al (u v:V):Prop:=((up u/\up v)\/(up (ng u)/\up (ng v)))/\xr u v=0
theorem B4 {u:V} (h:up u) (k:up (ng u)):False:=by
 unfold up ng at *;rcases h with h | h <;> rcases k with k | k <;> grind
theorem zhi {u v w:V} (h:bf u v) (k:bf v w):bf u w:=by
 rcases h with⟨a,b⟩ | ⟨a,b,c⟩ | ⟨a,b,c⟩ <;> rcases k with⟨d,e⟩ | ⟨d,e,f⟩ | ⟨d,e,f⟩
 ·exact (B4 d b).elim
 ·exact (B4 d b).elim
 ·exact .inl ⟨a,e⟩
 ·exact .inl ⟨a,e⟩
 ·exact .inr (.inl ⟨a,e,tr_lt1 a b e c (Z5 f)⟩)
 ·exact .inl ⟨a,e⟩
 ·exact (B4 d b).elim
 ·exact (B4 d b).elim
 ·refine .inr (.inr ⟨a,e,?_⟩);rw [<- zun] at c f |-;exact tr_lt1 a b e c (Z5 f)
theorem ylt {u v:V} (h:al u v):al v u:=⟨h.1.imp (fun k=>⟨k.2,k.1⟩) (fun k=>⟨k.2,k.1⟩),by rw [B8,h.2];grind⟩
theorem al_bf {u v w:V} (h:al u v) (k:bf v w):bf u w:=by
 refine xg h fun k1 k2=>?_;clear h
 rcases k with⟨a,b⟩ | ⟨a,b,c⟩ | ⟨a,b,c⟩ <;> rcases k1 with⟨d,e⟩ | ⟨d,e⟩
 ·exact .inl ⟨d,b⟩
 ·exact (B4 a e).elim
 ·exact .inr (.inl ⟨d,b,tr_lt2 d e b (by rw [k2];exact Qe) c⟩)
 ·exact (B4 a e).elim
 ·exact (B4 e a).elim
 ·refine .inr (.inr ⟨d,b,?_⟩);rw [<- zun] at c k2 |-;exact tr_lt2 d e b (by rw [k2];exact Qe) c
structure Poly (P:Nat->V) (n:Nat):Prop where
 three:3<=n
 per:∀ i,P (i+n)=P i
 conv:∀ i k,0<=xr (mn (P (i+1)) (P i)) (mn (P k) (P i))
 turn:∀ i,0<xr (mn (P (i+1)) (P i)) (mn (P (i+2)) (P (i+1)))
 fst:up (mn (P 1) (P 0))
 lst:up (ng (mn (P n) (P (n-1))))
 half:∀ i,up (mn (P (i+1)) (P i))\/up (ng (mn (P (i+1)) (P i)))
 mono:∀ i,i+1<n->up (ng (mn (P (i+1)) (P i)))->up (ng (mn (P (i+2)) (P (i+1))))
 low:∀ k,0<k->k<n->up (mn (P k) (P 0))
def ed (P:Nat->V) (i:Nat):V:=mn (P (i+1)) (P i)
variable {P Q:Nat->V} {n m:Nat}
theorem Poly.next (h:Poly P n) {i:Nat} (hi:i+1<n):bf (ed P i) (ed P (i+1)):=by
 have t:=h.turn i;rcases h.half i with a | a
 ·rcases h.half (i+1) with b | b
  ·exact .inr (.inl ⟨a,b,t⟩)
  ·exact .inl ⟨a,b⟩
 ·exact .inr (.inr ⟨a,h.mono i hi a,t⟩)
theorem Poly.edp (h:Poly P n) (i:Nat):ed P (i+n)=ed P i:=by
 unfold ed;rw [show i+n+1=i+1+n by omega,h.per,h.per]
theorem Poly.wrap (h:Poly P n):0<xr (ed P (n-1)) (ed P 0):=by
 have t:=h.turn (n-1);have:=h.three
 rw [show n-1+2=1+n by omega,show n-1+1=0+n by omega,h.per,h.per] at t;unfold ed;rw [show n-1+1=0+n by omega,h.per];exact t
theorem Poly.lst' (h:Poly P n):up (ng (ed P (n-1))):=by
 have:=h.three
 have t:=h.lst;unfold ed;rw [show n-1+1=n by omega];exact t
structure Inv (P Q:Nat->V) (n m i j:Nat):Prop where
 a:0<i->j<m->bf (ed P (i-1)) (ed Q j)
 b:0<j->i<n->bf (ed Q (j-1)) (ed P i)
theorem Inv.symm {i j:Nat} (h:Inv P Q n m i j):Inv Q P m n j i:=⟨h.b,h.a⟩
theorem apart (hQ:Poly Q m) {i j:Nat} (I:Inv P Q n m i j) (hi:i<n) (hj:j<m) (a:up (ed P i)) (b:up (ng (ed Q j))):0<xr (ed P i) (ed Q j):=by
 have hj0:0<j:=by
  rcases Wx j with e | e
  ·subst e;exact (B4 hQ.fst b).elim
  ·exact e
 have t:=hQ.turn (j-1);rw [show j-1+2=j+1 by omega,show j-1+1=j by omega] at t;rcases I.b hj0 hi with⟨c,d⟩ | ⟨c,d,e⟩ | ⟨c,d,e⟩
 ·exact (B4 a d).elim
 ·have:0<xr (ng (ed Q j)) (ed Q (j-1)):=by
   have e1:ed Q (j-1)=mn (Q j) (Q (j-1)):=by unfold ed;rw [show j-1+1=j by omega]
   rw [zhm,B8,e1];unfold ed;grind
  have:=tr_lt1 b c a this (Z5 e)
  rw [zhm,B8] at this;grind
 ·exact (B4 a d).elim
theorem order (hP:Poly P n) (hQ:Poly Q m) {i j:Nat} (I:Inv P Q n m i j) (hi:i<n) (hj:j<m) :
  (0<xr (ed P i) (ed Q j)->bf (ed P i) (ed Q j))/\(xr (ed P i) (ed Q j)<0->bf (ed Q j) (ed P i))/\(xr (ed P i) (ed Q j)=0->al (ed P i) (ed Q j)):=by
 rcases hP.half i with a | a <;> rcases hQ.half j with b | b
 ·exact⟨fun h=>.inr (.inl ⟨a,b,h⟩),fun h=>.inr (.inl ⟨b,a,by rw [B8];grind⟩),fun h=>⟨.inl ⟨a,b⟩,h⟩⟩
 ·have:=apart hQ I hi hj a b
  exact⟨fun h=>.inl ⟨a,b⟩,fun h=>by grind,fun h=>by grind⟩
 ·have:=apart hP I.symm hj hi b a
  rw [B8] at this;exact⟨fun h=>by grind,fun h=>.inl ⟨b,a⟩,fun h=>by grind⟩
 ·exact⟨fun h=>.inr (.inr ⟨a,b,h⟩),fun h=>.inr (.inr ⟨b,a,by rw [B8];grind⟩),fun h=>⟨.inr ⟨a,b⟩,h⟩⟩
end Mg
namespace Mg
open DL
variable {P Q:Nat->V} {n m:Nat}
theorem Poly.cone (h:Poly Q m) (j:Nat) {g:V} (A:0<=xr g (ed Q j)) (B:0<=xr (ed Q (j+m-1)) g) (k:Nat):0<=xr g (mn (Q k) (Q j)):=by
 have h3:=h.three;have t:=h.turn (j+m-1);have c1:=h.conv j k;have c2:=h.conv (j+m-1) k;have e0:j+m-1+1=j+m:=by omega
 have e1:j+m-1+2=j+1+m:=by omega
 rw [e0,e1,h.per,h.per] at t;rw [e0,h.per] at c2;have e2:ed Q (j+m-1)=mn (Q j) (Q (j+m-1)):=by unfold ed;rw [e0,h.per]
 rw [e2] at B;have e3:ed Q j=mn (Q (j+1)) (Q j):=rfl;rw [e3] at A;refine nn_of_mul t ?_;generalize Q (j+m-1)=z at *;have c3:xr (mn (Q j) z) (mn (Q k) z)=xr (mn (Q j) z) (mn (Q k) (Q j)):=by unfold xr mn;grind
 rw [c3] at c2;have e:xr g (mn (Q k) (Q j))*xr (mn (Q j) z) (mn (Q (j+1)) (Q j))=xr (mn (Q j) z) (mn (Q k) (Q j))*xr g (mn (Q (j+1)) (Q j))+xr (mn (Q (j+1)) (Q j)) (mn (Q k) (Q j))*xr (mn (Q j) z) g:=by unfold xr;grind
 rw [e];have a:=Zo c2 A;have b:=Zo c1 B;grind
theorem Poly.fst' (h:Poly Q m):up (ed Q 0):=h.fst
theorem Poly.pred (h:Poly Q m) {j:Nat} (hj:0<j):ed Q (j+m-1)=ed Q (j-1):=by
 rw [show j+m-1=j-1+m by omega,h.edp]
theorem Poly.turn' (h:Poly Q m) {j:Nat} (hj:0<j):0<xr (ed Q (j-1)) (ed Q j):=by
 have t:=h.turn (j-1);unfold ed;rw [show j-1+2=j+1 by omega,show j-1+1=j by omega] at t;rw [show j-1+1=j by omega];exact t
theorem sup (hP:Poly P n) (hQ:Poly Q m) {i j:Nat} (I:Inv P Q n m i j) (hi:i<n) (hj:j=m\/(j<m/\0<=xr (ed P i) (ed Q j))) :
  0<=xr (ed P i) (ed Q j)/\0<xr (ed Q (j+m-1)) (ed P i):=by
 have h3:=hQ.three;rcases hj with e | ⟨hj,A⟩
 ·subst e;have pb:=I.b (by omega) hi;have e0:ed Q j=ed Q 0:=by have:=hQ.edp 0;rwa [Y8] at this
  rw [hQ.pred (by omega),e0];have d:=hQ.lst';have w:=hQ.wrap;rcases pb with⟨a,b⟩ | ⟨a,b,c⟩ | ⟨a,b,c⟩
  ·exact (B4 a d).elim
  ·exact (B4 a d).elim
  ·refine⟨?_,c⟩
   have x1:0<xr (ed Q 0) (ng (ed Q (j-1))):=by rw [zjr,B8];grind
   have x2:0<xr (ng (ed Q (j-1))) (ng (ed P i)):=by rw [zun];exact c
   have:=tr_lt1 hQ.fst' a b x1 (Z5 x2)
   rw [zjr,B8] at this;grind
 ·refine⟨A,?_⟩
  have O:=order hP hQ I hi hj;rcases Wx j with e | e
  ·subst e;have d:=hQ.lst';have w:=hQ.wrap;rw [Y8];have u:up (ed P i):=by
    by_cases k:0<xr (ed P i) (ed Q 0)
    ·rcases O.1 k with⟨a,_⟩ | ⟨a,_,_⟩ | ⟨_,b,_⟩
     ·exact a
     ·exact a
     ·exact (B4 hQ.fst' b).elim
    ·rcases (O.2.2 (by grind)).1 with⟨a,_⟩ | ⟨_,b⟩
     ·exact a
     ·exact (B4 hQ.fst' b).elim
   have x1:0<xr (ed Q 0) (ng (ed Q (m-1))):=by rw [zjr,B8];grind
   have:=tr_lt2 u hQ.fst' d A x1
   rw [zjr,B8] at this;grind
  ·rw [hQ.pred e];rcases I.b e hi with⟨a,b⟩ | ⟨a,b,c⟩ | ⟨a,b,c⟩
   ·have dn:up (ng (ed Q j)):=by
     by_cases k:0<xr (ed P i) (ed Q j)
     ·rcases O.1 k with⟨a',_⟩ | ⟨a',_,_⟩ | ⟨_,b',_⟩
      ·exact (B4 a' b).elim
      ·exact (B4 a' b).elim
      ·exact b'
     ·rcases (O.2.2 (by grind)).1 with⟨a',_⟩ | ⟨_,b'⟩
      ·exact (B4 a' b).elim
      ·exact b'
    have t:=hQ.turn' e;have x1:0<xr (ng (ed Q j)) (ed Q (j-1)):=by rw [zhm,B8];grind
    have x0:0<=xr (ng (ed P i)) (ng (ed Q j)):=by rw [zun];exact A
    have:=tr_lt2 b dn a x0 x1
    rw [zhm,B8] at this;grind
   ·exact c
   ·exact c
def Stp (P Q:Nat->V) (n m:Nat) (s t:Nat×Nat):Prop:=
 (t=(s.1+1,s.2)/\s.1<n/\(s.2=m\/(s.2<m/\0<xr (ed P s.1) (ed Q s.2)))) \/
 (t=(s.1,s.2+1)/\s.2<m/\(s.1=n\/(s.1<n/\xr (ed P s.1) (ed Q s.2)<0))) \/
 (t=(s.1+1,s.2+1)/\s.1<n/\s.2<m/\xr (ed P s.1) (ed Q s.2)=0)
def at2 (P Q:Nat->V) (s:Nat×Nat):V:=pl (P s.1) (Q s.2)
def gw (P Q:Nat->V) (s t:Nat×Nat):V:=mn (at2 P Q t) (at2 P Q s)
theorem gw1 (i j:Nat):gw P Q (i,j) (i+1,j)=ed P i:=by
 unfold gw at2 ed mn pl;exact Yv (by dsimp only;grind) (by dsimp only;grind)
theorem gw2 (i j:Nat):gw P Q (i,j) (i,j+1)=ed Q j:=by
 unfold gw at2 ed mn pl;exact Yv (by dsimp only;grind) (by dsimp only;grind)
theorem gw3 (i j:Nat):gw P Q (i,j) (i+1,j+1)=pl (ed P i) (ed Q j):=by
 unfold gw at2 ed mn pl;exact Yv (by dsimp only;grind) (by dsimp only;grind)
structure StepOk (P Q:Nat->V) (n m:Nat) (s t:Nat×Nat):Prop where
 inv:Inv P Q n m t.1 t.2
 lowP:∀ k,0<=xr (gw P Q s t) (mn (P k) (P s.1))
 lowQ:∀ k,0<=xr (gw P Q s t) (mn (Q k) (Q s.2))
 fromP:0<xr (ed P (s.1+n-1)) (gw P Q s t)
 fromQ:0<xr (ed Q (s.2+m-1)) (gw P Q s t)
theorem Poly.turnp (h:Poly Q m) (j:Nat):0<xr (ed Q (j+m-1)) (ed Q j):=by
 have h3:=h.three;rcases Wx j with e | e
 ·subst e;rw [Y8];exact h.wrap
 ·rw [h.pred e];exact h.turn' e
theorem zrn (hP:Poly P n) (hQ:Poly Q m) {i j:Nat} (I:Inv P Q n m i j) (hi:i<n) (hjm:j<=m) (hj:j=m\/(j<m/\0<xr (ed P i) (ed Q j))):StepOk P Q n m (i,j) (i+1,j):=by
 have S:=sup hP hQ I hi (hj.imp_right fun h=>⟨h.1,Z5 h.2⟩);refine⟨⟨fun _ h=>?_,fun h k=>?_⟩,fun k=>?_,fun k=>?_,?_,?_⟩
 ·rw [Wy];rcases hj with e | ⟨h1,h2⟩
  ·exact absurd h (by dsimp only;omega)
  ·exact (order hP hQ I hi h1).1 h2
 ·exact zhi (I.b h hi) (hP.next k)
 ·rw [gw1];exact hP.conv i k
 ·rw [gw1];exact hQ.cone j S.1 (Z5 S.2) k
 ·rw [gw1];exact hP.turnp i
 ·rw [gw1];exact S.2
theorem zlp (i j i' j':Nat):gw Q P (j,i) (j',i')=gw P Q (i,j) (i',j'):=by
 unfold gw at2 mn pl;exact Yv (by dsimp only;grind) (by dsimp only;grind)
theorem StepOk.swap {i j i' j':Nat} (h:StepOk Q P m n (j,i) (j',i')):StepOk P Q n m (i,j) (i',j'):=
 ⟨h.inv.symm,fun k=>by have:=h.lowQ k;rwa [zlp] at this,fun k=>by have:=h.lowP k;rwa [zlp] at this,by have:=h.fromQ;rwa [zlp] at this,by have:=h.fromP;rwa [zlp] at this⟩
theorem zzb (hP:Poly P n) (hQ:Poly Q m) {i j:Nat} (I:Inv P Q n m i j) (hi:i<n) (hj:j<m) (h0:xr (ed P i) (ed Q j)=0):StepOk P Q n m (i,j) (i+1,j+1):=by
 have S:=sup hP hQ I hi (.inr ⟨hj,by rw [h0];exact Qe⟩);have h0':xr (ed Q j) (ed P i)=0:=by rw [B8,h0];grind
 have S':=sup hQ hP I.symm hj (.inr ⟨hi,by rw [h0'];exact Qe⟩);have AL:=(order hP hQ I hi hj).2.2 h0;refine⟨⟨fun _ h=>?_,fun _ k=>?_⟩,fun k=>?_,fun k=>?_,?_,?_⟩
 ·rw [Wy];exact al_bf AL (hQ.next h)
 ·rw [Wy];exact al_bf (ylt AL) (hP.next k)
 ·rw [gw3,zji];have a:=hP.conv i k;have b:=hP.cone i S'.1 (Z5 S'.2) k;unfold ed at *;grind
 ·rw [gw3,zji];have a:=hQ.conv j k;have b:=hQ.cone j S.1 (Z5 S.2) k;unfold ed at *;grind
 ·rw [gw3,zbe];have a:=hP.turnp i;have b:=S'.2;grind
 ·rw [gw3,zbe];have a:=hQ.turnp j;have b:=S.2;grind
theorem zks (hP:Poly P n) (hQ:Poly Q m) {s t:Nat×Nat} (I:Inv P Q n m s.1 s.2) (h1:s.1<=n) (h2:s.2<=m) (h:Stp P Q n m s t):StepOk P Q n m s t:=by
 obtain⟨i,j⟩:=s
 dsimp only at *;rcases h with⟨e,a,b⟩ | ⟨e,a,b⟩ | ⟨e,a,b,c⟩
 ·rw [e];exact zrn hP hQ I a h2 b
 ·rw [e];exact (zrn hQ hP I.symm a h1 (b.imp_right fun k=>⟨k.1,by rw [B8];have:=k.2;grind⟩)).swap
 ·rw [e];exact zzb hP hQ I a b c
end Mg
namespace Mg
open DL
variable {P Q:Nat->V} {n m:Nat}
theorem zbm {a b:Rat} (hb:0<b) (h:b*a=0):a=0:=by
 rcases zkz a 0 with k | k | k
 ·have:=Wa hb (show 0 < -a by grind);grind
 ·exact k
 ·have:=Wa hb k;grind
theorem ext0 {d:V} (h1:d.1=0) (h2:d.2=0):d=(0,0):=Yv h1 h2
theorem zxa {a b:V} (h:mn a b=(0,0)):a=b:=by
 have h1:=congrArg Prod.fst h;have h2:=congrArg Prod.snd h;unfold mn at h1 h2;exact Yv (by dsimp only at h1;grind) (by dsimp only at h2;grind)
theorem xr_id (u v w:V):xr u v*w.1=xr u w*v.1+xr w v*u.1/\xr u v*w.2=xr u w*v.2+xr w v*u.2:=by
 unfold xr;constructor <;> grind
theorem share {u g d:V} (hT:0<xr u g) (h0:xr g d=0) (ha:0<=xr u d) (hd:d≠(0,0)):0<xr u d/\∀ h:V,xr u g*xr h d=xr u d*xr h g:=by
 have h0':xr d g=0:=by rw [B8,h0];grind
 refine xg (xr_id u g d) fun e1 e2=>?_;rw [h0'] at e1 e2;refine⟨?_,fun h=>?_⟩
 ·by_cases k:0<xr u d
  ·exact k
  ·have z:xr u d=0:=by grind
   rw [z] at e1 e2;exact absurd (ext0 (zbm hT (by grind)) (zbm hT (by grind))) hd
 ·have:xr u g*xr h d=h.1*(xr u g*d.2)-h.2*(xr u g*d.1):=by unfold xr;grind
  rw [this,e1,e2];unfold xr;grind
theorem ybk {a b c a' b' c' c'':V} (w1:0<=xr (mn a a') (mn c a')) (t1:0<xr (mn a a') (mn b a)) (w2:0<=xr (mn b' b) (mn c b)) (t2:0<xr (mn b a) (mn b' b))
  (wa:0<=xr (mn c'' c) (mn a c)) (wb:0<=xr (mn c'' c) (mn b c)) (va:0<=xr (mn c c') (mn a c')) (vb:0<=xr (mn c c') (mn b c')) (t3:0<xr (mn c c') (mn c'' c))
  (w:0<=xr (mn b a) (mn c a)) (ha:c≠a) (hb:c≠b):0<xr (mn b a) (mn c a):=by
 by_cases k:0<xr (mn b a) (mn c a)
 ·exact k
 exfalso
 have z:xr (mn b a) (mn c a)=0:=by grind
 have z2:xr (mn b a) (mn b c)=0:=by
  have:xr (mn b a) (mn b c) = - xr (mn b a) (mn c a):=by unfold xr mn;grind
  rw [this,z];grind
 have w1':0<=xr (mn a a') (mn c a):=by
  have:xr (mn a a') (mn c a')=xr (mn a a') (mn c a):=by unfold xr mn;grind
  rw [<- this];exact w1
 refine xg (share t1 z w1' fun e=>ha (zxa e)) fun p1 s1=>?_;have t2':0<xr (ng (mn b' b)) (mn b a):=by rw [zhm,B8];grind
 have w2':0<=xr (ng (mn b' b)) (mn b c):=by
  have:xr (ng (mn b' b)) (mn b c)=xr (mn b' b) (mn c b):=by unfold xr mn ng;grind
  rw [this];exact w2
 refine xg (share t2' z2 w2' fun e=>hb (zxa e).symm) fun p2 s2=>?_;have flat:∀ h:V,0<=xr h (mn a c)->0<=xr h (mn b c)->xr h (mn b a)=0:=fun h k1 k2=>by
  have q1:=s1 h;have q2:=s2 h;have e:xr h (mn a c) = - xr h (mn c a):=by unfold xr mn;grind
  rw [e] at k1;have g1:=Zo (Z5 t1) k1;have g2:=Zo (Z5 t2') k2;have r2:0<=xr h (mn b a):=nn_of_mul p2 (by grind);have r1:0 <= - xr h (mn b a):=nn_of_mul p1 (by grind);grind
 have f1:=flat _ wa wb;have va':0<=xr (mn c c') (mn a c):=by
  have:xr (mn c c') (mn a c')=xr (mn c c') (mn a c):=by unfold xr mn;grind
  rw [<- this];exact va
 have vb':0<=xr (mn c c') (mn b c):=by
  have:xr (mn c c') (mn b c')=xr (mn c c') (mn b c):=by unfold xr mn;grind
  rw [<- this];exact vb
 have f2:=flat _ va' vb';refine xg (xr_id (mn c c') (mn c'' c) (mn b a)) fun e1 e2=>?_;have f1':xr (mn b a) (mn c'' c)=0:=by rw [B8,f1];grind
 rw [f2,f1'] at e1 e2;have g0:mn b a=(0,0):=ext0 (zbm t3 (by grind)) (zbm t3 (by grind));rw [g0] at t1;unfold xr at t1;dsimp only at t1;grind
inductive Tr (P Q:Nat->V) (n m:Nat):Nat×Nat->List (Nat×Nat)->Prop
 | nil:Tr P Q n m (n,m) []
 | cons {s t l}:Inv P Q n m s.1 s.2->s.1<=n->s.2<=m->Stp P Q n m s t->Tr P Q n m t l->Tr P Q n m s (s::l)
theorem Tr.get {s:Nat×Nat} {l:List (Nat×Nat)} (h:Tr P Q n m s l):∀ {k:Nat} {x:Nat×Nat},l[k]? = some x->∃ y,Inv P Q n m x.1 x.2/\x.1<=n/\x.2<=m/\Stp P Q n m x y/\(l[k+1]? = some y\/(k+1=l.length/\y=(n,m))):=by
 induction h with
 | nil=>intro k x h;cases h
 | @cons s t l I a b S T ih=>
  intro k x h;cases k with
  | zero=>
   cases h;refine⟨t,I,a,b,S,?_⟩
   cases T with
   | nil=>exact .inr ⟨rfl,rfl⟩
   | cons _ _ _ _ _=>exact .inl rfl
  | succ k=>
   refine xw (ih (k:=k) h) fun y r1 r2 r3 r4 r5=>?_;exact⟨y,r1,r2,r3,r4,r5.imp id fun q=>⟨by rw [Zk,q.1],q.2⟩⟩
theorem Tr.head {s:Nat×Nat} {l:List (Nat×Nat)} (h:Tr P Q n m s l) (hs:s≠(n,m)):l[0]? = some s:=by
 cases h with
 | nil=>exact absurd rfl hs
 | cons _ _ _ _ _=>rfl
theorem Tr.len {s:Nat×Nat} {l:List (Nat×Nat)} (h:Tr P Q n m s l):n<=s.1+l.length:=by
 induction h with
 | nil=>exact Zg _
 | @cons s t l I a b S T ih=>
  rw [Zk];have:t.1<=s.1+1:=by rcases S with⟨e,_⟩ | ⟨e,_⟩ | ⟨e,_⟩ <;> rw [e] <;> dsimp only <;> omega
  omega
end Mg
namespace Mg
open DL
variable {P Q:Nat->V} {n m:Nat}
theorem StepOk.left {s t:Nat×Nat} (h:StepOk P Q n m s t) (z:Nat×Nat):0<=xr (gw P Q s t) (mn (at2 P Q z) (at2 P Q s)):=by
 have a:=h.lowP z.1;have b:=h.lowQ z.2;have e:xr (gw P Q s t) (mn (at2 P Q z) (at2 P Q s))=xr (gw P Q s t) (mn (P z.1) (P s.1))+xr (gw P Q s t) (mn (Q z.2) (Q s.2)):=by
  generalize gw P Q s t=g;unfold at2 xr mn pl;grind
 rw [e];grind
theorem zuw (hP:Poly P n) (hQ:Poly Q m) {s t:Nat×Nat} (h:Stp P Q n m s t) {v:V} (a:0<xr (ed P (t.1+n-1)) v) (b:0<xr (ed Q (t.2+m-1)) v):0<xr (gw P Q s t) v:=by
 obtain⟨i,j⟩:=s
 rcases h with⟨e,_⟩ | ⟨e,_⟩ | ⟨e,_⟩ <;> subst e <;> dsimp only at a b
 ·rw [hP.pred (by omega),Wy] at a;rw [gw1];exact a
 ·rw [hQ.pred (by omega),Wy] at b;rw [gw2];exact b
 ·rw [hP.pred (by omega),Wy] at a;rw [hQ.pred (by omega),Wy] at b;rw [gw3,zji];grind
theorem Stp.uniq {s t t':Nat×Nat} (h:Stp P Q n m s t) (k:Stp P Q n m s t'):t=t':=by
 rcases h with⟨e,a,b⟩ | ⟨e,a,b⟩ | ⟨e,a,b,c⟩ <;> rcases k with⟨e',a',b'⟩ | ⟨e',a',b'⟩ | ⟨e',a',b',c'⟩
 ·rw [e,e']
 ·rcases b with b | b <;> rcases b' with b' | b' <;> first | omega | (exfalso;have:=b.2;have:=b'.2;grind)
 ·rcases b with b | b
  ·omega
  ·exfalso;have:=b.2;grind
 ·rcases b with b | b <;> rcases b' with b' | b' <;> first | omega | (exfalso;have:=b.2;have:=b'.2;grind)
 ·rw [e,e']
 ·rcases b with b | b
  ·omega
  ·exfalso;have:=b.2;grind
 ·rcases b' with b' | b'
  ·omega
  ·exfalso;have:=b'.2;grind
 ·rcases b' with b' | b'
  ·omega
  ·exfalso;have:=b'.2;grind
 ·rw [e,e']
structure Cor (P Q:Nat->V) (n m:Nat) (T:List (Nat×Nat)) (k:Nat) (x y p q:Nat×Nat):Prop where
 out:StepOk P Q n m x y
 st:Stp P Q n m x y
 pre:T[(k+T.length-1)%T.length]? = some p
 inn:StepOk P Q n m p q
 ist:Stp P Q n m p q
 same:at2 P Q q=at2 P Q x
 turn:0<xr (gw P Q p q) (gw P Q x y)
theorem zsk (hP:Poly P n) (hQ:Poly Q m):at2 P Q (n,m)=at2 P Q (0,0):=by
 have a:=hP.per 0;have b:=hQ.per 0;rw [Y8] at a b;unfold at2;rw [a,b]
theorem Tr.cor (hP:Poly P n) (hQ:Poly Q m) {T:List (Nat×Nat)} (h:Tr P Q n m (0,0) T) {k:Nat} {x:Nat×Nat} (hk:T[k]? = some x):∃ y p q,Cor P Q n m T k x y p q:=by
 have n3:=hP.three;refine xw (h.get hk) fun y I a b S _=>?_;have O:=zks hP hQ I a b S;have hl:k<T.length:=by
  rcases Yw k T.length with h | h
  ·exact h
  ·rw [Yz h] at hk;cases hk
 rcases Wx k with e | e
 ·subst e;have h0:=h.head (by intro e;have:=congrArg Prod.fst e;dsimp only at this;omega);rw [h0] at hk;cases hk;have e1:(0+T.length-1)%T.length=T.length-1:=by rw [Y8];exact Zt (by omega)
  have hp:T[T.length-1]? = some (T[T.length-1]):=Ze (by omega);refine xw (h.get hp) fun q I' a' b' S' r=>?_;have hq:q=(n,m):=by
   rcases r with r | r
   ·rw [Yz (by omega)] at r;cases r
   ·exact r.2
  subst hq;refine⟨y,_,(n,m),O,S,by rw [e1];exact hp,zks hP hQ I' a' b' S',S',zsk hP hQ,zuw hP hQ S' ?_ ?_⟩
  ·have:=O.fromP
   dsimp only at this |-;rw [Y8] at this;rw [show n+n-1=n-1+n by omega,hP.edp];exact this
  ·have:=O.fromQ
   have m3:=hQ.three;dsimp only at this |-;rw [Y8] at this;rw [show m+m-1=m-1+m by omega,hQ.edp];exact this
 ·have e1:(k+T.length-1)%T.length=k-1:=by
   rw [show k+T.length-1=k-1+T.length by omega,Wr];exact Zt (by omega)
  have hp:T[k-1]? = some (T[k-1]):=Ze (by omega);refine xw (h.get hp) fun q I' a' b' S' r=>?_;have hq:q=x:=by
   rw [show k-1+1=k by omega] at r;rcases r with r | r
   ·rw [hk] at r;cases r;rfl
   ·omega
  subst hq;exact⟨y,_,q,O,S,by rw [e1];exact hp,zks hP hQ I' a' b' S',S',rfl,zuw hP hQ S' O.fromP O.fromQ⟩
theorem Tr.sum {s:Nat×Nat} {l:List (Nat×Nat)} (h:Tr P Q n m s l):∀ {k:Nat} {x:Nat×Nat},l[k]? = some x->s.1+s.2+k<=x.1+x.2:=by
 induction h with
 | nil=>intro k x h;cases h
 | @cons s t l I a b S T ih=>
  intro k x h;cases k with
  | zero=>cases h;exact Zg _
  | succ k=>
   have r:=ih (k:=k) h;have:s.1+s.2+1<=t.1+t.2:=by rcases S with⟨e,_⟩ | ⟨e,_⟩ | ⟨e,_⟩ <;> rw [e] <;> dsimp only <;> omega
   omega
theorem up_pl {u v:V} (h:up u) (k:up v):up (pl u v):=by
 unfold up pl at *;dsimp only;rcases h with h | h <;> rcases k with k | k
 ·exact .inl (by grind)
 ·exact .inl (by grind)
 ·exact .inl (by grind)
 ·exact .inr ⟨by grind,by grind⟩
theorem ltR_up {a b:V}:ltR a b↔up (mn b a):=by
 unfold ltR up mn;dsimp only;constructor
 ·rintro (h | ⟨h,k⟩)
  ·exact .inl (by grind)
  ·exact .inr ⟨by grind,by grind⟩
 ·rintro (h | ⟨h,k⟩)
  ·exact .inl (by grind)
  ·exact .inr ⟨by grind,by grind⟩
theorem pl_0 (u:V):pl u (0,0)=u:=by unfold pl;exact Yv (by dsimp only;grind) (by dsimp only;grind)
theorem yip (u:V):pl (0,0) u=u:=by unfold pl;exact Yv (by dsimp only;grind) (by dsimp only;grind)
theorem zdp (u:V):mn u u=(0,0):=by unfold mn;exact Yv (by dsimp only;grind) (by dsimp only;grind)
theorem Tr.shape (hP:Poly P n) (hQ:Poly Q m) {T:List (Nat×Nat)} (h:Tr P Q n m (0,0) T):IsShp (T.map (at2 P Q)):=by
 have n3:=hP.three;have m3:=hQ.three;have hl:=h.len;dsimp only at hl;refine⟨by rw [Zd];omega,fun k q0 q h0 hk=>?_,fun k a b c ha hb hc ca cb=>?_⟩
 ·rw [Zj] at h0 hk;rw [h.head (by intro e;have:=congrArg Prod.fst e;dsimp only at this;omega)] at h0;cases h0;cases hx:T[k+1]? with
  | none=>rw [hx] at hk;cases hk
  | some x=>
   rw [hx] at hk;cases hk;refine xw (h.get hx) fun y I a b S _=>?_;have sm:=h.sum hx;dsimp only at sm;rw [ltR_up];have e:mn (at2 P Q x) (at2 P Q (0,0))=pl (mn (P x.1) (P 0)) (mn (Q x.2) (Q 0)):=by
    unfold at2 mn pl;exact Yv (by dsimp only;grind) (by dsimp only;grind)
   rw [e];have pp:∀ {R:Nat->V} {r i:Nat},Poly R r->i<=r->(i=0\/i=r)/\mn (R i) (R 0)=(0,0)\/up (mn (R i) (R 0)):=fun {R r i} hR hi=>by
    rcases Wx i with e | e
    ·subst e;exact .inl ⟨.inl rfl,zdp _⟩
    ·rcases Yw i r with k | k
     ·exact .inr (hR.low i e k)
     ·have:i=r:=by omega
      subst this;have q:=hR.per 0;rw [Y8] at q;exact .inl ⟨.inr rfl,by rw [q];exact zdp _⟩
   rcases pp hP a with⟨u1,u2⟩ | u <;> rcases pp hQ b with⟨v1,v2⟩ | v
   ·exfalso
    obtain⟨i,j⟩:=x
    dsimp only at *;rcases u1 with u1 | u1 <;> rcases v1 with v1 | v1
    ·omega
    ·subst u1 v1;have:=I.b (by omega) (by omega)
     rcases this with⟨c,d⟩ | ⟨c,d,_⟩ | ⟨c,d,_⟩
     ·exact B4 hP.fst d
     ·exact B4 c hQ.lst'
     ·exact B4 hP.fst d
    ·subst u1 v1;have:=I.a (by omega) (by omega)
     rcases this with⟨c,d⟩ | ⟨c,d,_⟩ | ⟨c,d,_⟩
     ·exact B4 hQ.fst d
     ·exact B4 c hP.lst'
     ·exact B4 hQ.fst d
    ·subst u1 v1;rcases S with⟨_,c,_⟩ | ⟨_,c,_⟩ | ⟨_,c,_⟩ <;> dsimp only at c <;> omega
   ·rw [u2,yip];exact v
   ·rw [v2,pl_0];exact u
   ·exact up_pl u v
 ·rw [Zd] at ha;rw [Zj] at ha hb;cases hx:T[k]? with
  | none=>rw [hx] at hb;cases hb
  | some x=>
   rw [hx] at hb;cases hb;refine xq (h.cor hP hQ hx) fun y p q C=>?_;rw [C.pre] at ha;cases ha;refine xq (h.cor hP hQ C.pre) fun y1 p1 q1 C1=>?_;refine xa (Z1.mp hc) fun z hz ez=>?_;refine xb (Yg hz) fun i hi=>?_;refine xq (h.cor hP hQ hi) fun y2 p2 q2 C2=>?_;subst ez;have E0:mn (at2 P Q x) (at2 P Q p)=gw P Q p q:=by rw [<- C.same];rfl
   have E1:mn (at2 P Q p) (at2 P Q p1)=gw P Q p1 q1:=by rw [<- C1.same];rfl
   have E2:mn (at2 P Q z) (at2 P Q p2)=gw P Q p2 q2:=by rw [<- C2.same];rfl
   have oq:oR (at2 P Q p) (at2 P Q x) (at2 P Q z)=xr (mn (at2 P Q x) (at2 P Q p)) (mn (at2 P Q z) (at2 P Q p)):=by unfold oR xr mn;rfl
   rw [oq];have t1:=C1.turn;have yq:gw P Q p y1=gw P Q p q:=by rw [C1.st.uniq C.ist]
   refine ybk (a':=at2 P Q p1) (b':=at2 P Q y) (c':=at2 P Q p2) (c'':=at2 P Q y2) ?_ ?_ ?_ ?_ ?_ ?_ ?_ ?_ ?_ ?_ ca cb
   ·rw [E1];exact C1.inn.left z
   ·rw [E1,E0,<- yq];exact t1
   ·exact C.out.left z
   ·rw [E0];exact C.turn
   ·exact C2.out.left p
   ·exact C2.out.left x
   ·rw [E2];exact C2.inn.left p
   ·rw [E2];exact C2.inn.left x
   ·rw [E2];exact C2.turn
   ·rw [E0];exact C.inn.left z
end Mg
namespace Mg
open DL
variable {P Q:Nat->V} {n m:Nat}
def bend (P Q:Nat->V) (n m i j:Nat):Rat:=if j<m then (if i<n then xr (ed P i) (ed Q j) else -1) else 1
def nxt (P Q:Nat->V) (n m:Nat) (s:Nat×Nat):Nat×Nat:=(if 0<=bend P Q n m s.1 s.2 then s.1+1 else s.1,if bend P Q n m s.1 s.2<=0 then s.2+1 else s.2)
def walk (P Q:Nat->V) (n m:Nat):Nat->Nat×Nat->List (Nat×Nat)
 | 0,_=>[]
 | k+1,s=>if s.1<n\/s.2<m then s::walk P Q n m k (nxt P Q n m s) else []
theorem zwt {s:Nat×Nat} (h1:s.1<=n) (h2:s.2<=m) (h:s.1<n\/s.2<m):Stp P Q n m s (nxt P Q n m s):=by
 obtain⟨i,j⟩:=s
 unfold nxt Stp bend;dsimp only at *;by_cases hj:j<m
 ·rw [if_pos hj];by_cases hi:i<n
  ·rw [if_pos hi];rcases zkz (xr (ed P i) (ed Q j)) 0 with k | k | k
   ·rw [if_neg (by grind),if_pos (by grind)];exact .inr (.inl ⟨rfl,hj,.inr ⟨hi,k⟩⟩)
   ·rw [if_pos (by grind),if_pos (by grind)];exact .inr (.inr ⟨rfl,hi,hj,k⟩)
   ·rw [if_pos (by grind),if_neg (by grind)];exact .inl ⟨rfl,hi,.inr ⟨hj,k⟩⟩
  ·rw [if_neg hi,if_neg (by decide),if_pos (by decide)];exact .inr (.inl ⟨rfl,hj,.inl (by omega)⟩)
 ·rw [if_neg hj,if_pos (by decide),if_neg (by decide)];exact .inl ⟨rfl,by omega,.inl (by omega)⟩
theorem zur (hP:Poly P n) (hQ:Poly Q m):∀ (k:Nat) {s:Nat×Nat},Inv P Q n m s.1 s.2->s.1<=n->s.2<=m->n+m<=k+s.1+s.2->Tr P Q n m s (walk P Q n m k s)
 | 0,s,I,h1,h2,h=>by
  have:s=(n,m):=Yv (by dsimp only;omega) (by dsimp only;omega)
  subst this;exact .nil
 | k+1,s,I,h1,h2,h=>by
  unfold walk;by_cases c:s.1<n\/s.2<m
  ·rw [if_pos c];have S:=zwt (P:=P) (Q:=Q) h1 h2 c;have O:=zks hP hQ I h1 h2 S;have b:(nxt P Q n m s).1<=n/\(nxt P Q n m s).2<=m/\s.1+s.2+1<=(nxt P Q n m s).1+(nxt P Q n m s).2:=by
    rcases S with⟨e,a,_⟩ | ⟨e,a,_⟩ | ⟨e,a,a',_⟩ <;> rw [e] <;> dsimp only <;> omega
   exact .cons I h1 h2 S (zur hP hQ k O.inv b.1 b.2.1 (by omega))
  ·rw [if_neg c];have:s=(n,m):=Yv (by dsimp only;omega) (by dsimp only;omega)
   subst this;exact .nil
theorem zkj (hP:Poly P n) (hQ:Poly Q m) {k:Nat} (h:n+m<=k):Tr P Q n m (0,0) (walk P Q n m k (0,0)):=
 zur hP hQ k ⟨fun h=>by omega,fun h=>by omega⟩ (Yc _) (Yc _) (by dsimp only;omega)
def rnd (l:List V) (i:Nat):V:=l.getD (i%l.length) (0,0)
theorem zae {l:List V} (h:0<l.length) (i:Nat):l[i%l.length]? = some (rnd l i):=by
 unfold rnd;have:=Qj i h
 rw [Zm,Ze this];rfl
theorem zay {l:List V} (h:0<l.length) (i:Nat):rnd l i∈l:=Zw (zae h i)
theorem zkx {l:List V} (nd:l.Nodup) (h:0<l.length) {i j:Nat} (e:rnd l i=rnd l j):i%l.length=j%l.length:=by
 have a:=zae h i;have b:=zae h j;have hi:=Qj i h;rw [<- e,<- a] at b;exact ((List.getElem?_inj hi nd).mp b.symm)
theorem zhl (u:V):xr u u=0:=by unfold xr;grind
theorem xr_0 (u:V):xr u (0,0)=0:=by unfold xr;grind
theorem yjj {e f d:V} (he:up e) (hf:up (ng f)) (hD:0<xr f e) (a:0<=xr f d) (b:0<=xr e d) (hd:up (ng d)):False:=by
 have i1:xr f e*d.1=xr f d*e.1+xr e d*(ng f).1:=by unfold xr ng;grind
 have i2:xr f e*d.2=xr f d*e.2+xr e d*(ng f).2:=by unfold xr ng;grind
 generalize ng f=g at *;generalize xr f e=D at *;generalize xr f d=x at *;generalize xr e d=y at *;have e1:=up_1 he;have g1:=up_1 hf;have m1:=Zo a e1;have m2:=Zo b g1;have d1:0<=d.1:=nn_of_mul hD (by grind);unfold up ng at hd;dsimp only at hd;rcases hd with hd | ⟨hd,hd2⟩
 ·grind
 ·have z:d.1=0:=by grind
  rw [z] at i1;have z1:x*e.1=0:=by grind
  have z2:y*g.1=0:=by grind
  have p1:0<=x*e.2:=by
   rcases he with k | ⟨_,k⟩
   ·have:x=0:=zbm k (by grind)
    rw [this];grind
   ·exact Zo a (Z5 k)
  have p2:0<=y*g.2:=by
   rcases hf with k | ⟨_,k⟩
   ·have:y=0:=zbm k (by grind)
    rw [this];grind
   ·exact Zo b (Z5 k)
  have:0<=d.2:=nn_of_mul hD (by grind)
  grind
theorem zdo {l:List V} (h:IsShp l) (nd:l.Nodup):Poly (rnd l) l.length:=by
 have h3:=h.three;have l0:0<l.length:=by omega
 have per:∀ i,rnd l (i+l.length)=rnd l i:=fun i=>by unfold rnd;rw [Wr]
 have cv:∀ i k,rnd l k≠rnd l i->rnd l k≠rnd l (i+1)->0<oR (rnd l i) (rnd l (i+1)) (rnd l k):=fun i k h1 h2=>by
  refine h.conv ((i+1)%l.length) _ _ _ ?_ (zae l0 (i+1)) (zay l0 k) h1 h2;have:((i+1)%l.length+l.length-1)%l.length=i%l.length:=by
   have a:=Qj (i+1) l0;have e:(i+1)%l.length+l.length-1=(i+1)%l.length+(l.length-1):=by omega
   rw [e,Kf,show i+1+(l.length-1)=i+l.length by omega,Wr]
  rw [this];exact zae l0 i
 have oX:∀ a b c:V,oR a b c=xr (mn b a) (mn c a):=fun a b c=>by unfold oR xr mn;rfl
 have conv:∀ i k,0<=xr (mn (rnd l (i+1)) (rnd l i)) (mn (rnd l k) (rnd l i)):=fun i k=>by
  by_cases h1:rnd l k=rnd l i
  ·rw [h1,zdp,xr_0];exact Qe
  ·by_cases h2:rnd l k=rnd l (i+1)
   ·rw [h2,zhl];exact Qe
   ·have:=cv i k h1 h2
    rw [oX] at this;exact Z5 this
 have ne1:∀ i,rnd l (i+1)≠rnd l i:=fun i e=>by
  have:=zkx nd l0 e
  have a:=Qj i l0;rw [<- Kf] at this;rcases Yw (i%l.length+1) l.length with k | k
  ·rw [Zt k] at this;omega
  ·rw [show i%l.length+1=l.length by omega,Km] at this;omega
 have ne2:∀ i,rnd l (i+2)≠rnd l i:=fun i e=>by
  have:=zkx nd l0 e
  have a:=Qj i l0;rw [<- Kf] at this;rcases Yw (i%l.length+2) l.length with k | k
  ·rw [Zt k] at this;omega
  ·rw [show i%l.length+2=i%l.length+2-l.length+l.length by omega,Wr,Zt (by omega)] at this;omega
 have turn:∀ i,0<xr (mn (rnd l (i+1)) (rnd l i)) (mn (rnd l (i+2)) (rnd l (i+1))):=fun i=>by
  have:=cv i (i+2) (ne2 i) (ne1 (i+1))
  rw [oX] at this;have e:xr (mn (rnd l (i+1)) (rnd l i)) (mn (rnd l (i+2)) (rnd l (i+1)))=xr (mn (rnd l (i+1)) (rnd l i)) (mn (rnd l (i+2)) (rnd l i)):=by
   generalize rnd l (i+1)=b;generalize rnd l (i+2)=c;unfold xr mn;grind
  rw [e];exact this
 have low:∀ k,0<k->k<l.length->up (mn (rnd l k) (rnd l 0)):=fun k k0 k1=>by
  have a:=zae l0 0;have b:=zae l0 k;rw [Go] at a;rw [Zt k1] at b;rw [show k=k-1+1 by omega] at b;rw [<- ltR_up];have:=h.first (k-1) _ _ a b
  rw [show k-1+1=k by omega] at this;exact this
 have half:∀ i,up (mn (rnd l (i+1)) (rnd l i))\/up (ng (mn (rnd l (i+1)) (rnd l i))):=fun i=>by
  rcases zxi (rnd l i) (rnd l (i+1)) with k | k | k
  ·exact .inl (ltR_up.mp k)
  ·exact absurd k.symm (ne1 i)
  ·refine .inr ?_;have:=ltR_up.mp k
   have e:ng (mn (rnd l (i+1)) (rnd l i))=mn (rnd l i) (rnd l (i+1)):=by
    unfold ng mn;exact Yv (by dsimp only;grind) (by dsimp only;grind)
   rw [e];exact this
 refine⟨h3,per,conv,turn,low 1 (by omega) (by omega),?_,half,?_,low⟩
 ·have e:=per 0;rw [Y8] at e;rw [e];have:=low (l.length-1) (by omega) (by omega)
  have e:ng (mn (rnd l 0) (rnd l (l.length-1)))=mn (rnd l (l.length-1)) (rnd l 0):=by
   unfold ng mn;exact Yv (by dsimp only;grind) (by dsimp only;grind)
  rw [e];exact this
 ·intro i hi a;rcases half (i+1) with u | u
  ·exfalso
   have lo:=low (i+1) (by omega) hi;have c1:=conv (i+1) 0;have c2:=conv i 0;refine yjj (d:=mn (rnd l 0) (rnd l (i+1))) u a (turn i) ?_ c1 ?_
   ·have e:xr (mn (rnd l (i+1)) (rnd l i)) (mn (rnd l 0) (rnd l (i+1)))=xr (mn (rnd l (i+1)) (rnd l i)) (mn (rnd l 0) (rnd l i)):=by
     generalize rnd l (i+1)=b;generalize rnd l 0=c;unfold xr mn;grind
    rw [e];exact c2
   ·have e:ng (mn (rnd l 0) (rnd l (i+1)))=mn (rnd l (i+1)) (rnd l 0):=by
     unfold ng mn;exact Yv (by dsimp only;grind) (by dsimp only;grind)
    rw [e];exact lo
  ·exact u
def sumW (l r:List V):List (Nat×Nat):=walk (rnd l) (rnd r) l.length r.length (l.length+r.length) (0,0)
def sumL (l r:List V):List V:=(sumW l r).map (at2 (rnd l) (rnd r))
theorem zvl {l r:List V} (hl:IsShp l) (nl:l.Nodup) (hr:IsShp r) (nr:r.Nodup):IsShp (sumL l r):=
 (zkj (zdo hl nl) (zdo hr nr) (Zg _)).shape (zdo hl nl) (zdo hr nr)
end Mg
namespace Mg
open DL
theorem zpb {l r:List V} (hl:0<l.length) (hr:0<r.length) {c:V} (h:c∈sumL l r):∃ u,u∈l/\∃ v,v∈r/\c=pl u v:=by
 refine xa (Z1.mp h) fun s _ e=>?_;exact⟨_,zay hl s.1,_,zay hr s.2,e.symm⟩
theorem zlj {l:List V} {c:V} (h:c∈l):∃ k,rnd l k=c:=by
 refine xb (Yg h) fun k hk=>?_;have hl:k<l.length:=by
  rcases Yw k l.length with h | h
  ·exact h
  ·rw [Yz h] at hk;cases hk
 refine⟨k,?_⟩
 have:=zae (by omega:0<l.length) k
 rw [Zt hl,hk] at this;exact (Ye this).symm
theorem yhl {l r:List V} (hl:IsShp l) (nl:l.Nodup) (hr:IsShp r) (nr:r.Nodup) {k:Nat} {a b:V} (ha:(sumL l r)[(k+(sumL l r).length-1)%(sumL l r).length]? = some a) (hb:(sumL l r)[k]? = some b) :
  ∃ u,u∈l/\∃ v,v∈r/\a=pl u v/\(∀ c∈l,0<=xr (mn b a) (mn c u))/\(∀ c∈r,0<=xr (mn b a) (mn c v)):=by
 have hP:=zdo hl nl;have hQ:=zdo hr nr;have l3:=hl.three;have r3:=hr.three;have T:=zkj hP hQ (Zg _);unfold sumL at ha hb;rw [Zd,Zj] at ha;rw [Zj] at hb;cases hx:(sumW l r)[k]? with
 | none=>rw [hx] at hb;cases hb
 | some x=>
  rw [hx] at hb;cases hb;refine xq (T.cor hP hQ hx) fun y p q C=>?_;have pr:(sumW l r)[(k+(sumW l r).length-1)%(sumW l r).length]? = some p:=C.pre;rw [pr] at ha;cases ha;have E0:mn (at2 (rnd l) (rnd r) x) (at2 (rnd l) (rnd r) p)=gw (rnd l) (rnd r) p q:=by rw [<- C.same];rfl
  refine⟨_,zay (by omega) p.1,_,zay (by omega) p.2,rfl,fun c hc=>?_,fun c hc=>?_⟩
  ·refine xb (zlj hc) fun i e=>?_;rw [E0,<- e];exact C.inn.lowP i
  ·refine xb (zlj hc) fun i e=>?_;rw [E0,<- e];exact C.inn.lowQ i
theorem zqj {P Q:Nat->V} {n m:Nat}:∀ (k:Nat) (s:Nat×Nat),(walk P Q n m k s).length<=k
 | 0,_=>Zg _
 | k+1,s=>by
  unfold walk;by_cases c:s.1<n\/s.2<m
  ·rw [if_pos c,Zk];have:=zqj (P:=P) (Q:=Q) (n:=n) (m:=m) k (nxt P Q n m s);omega
  ·rw [if_neg c];exact Yc _
theorem zft (l r:List V):(sumL l r).length<=l.length+r.length:=by unfold sumL;rw [Zd];exact zqj _ _
end Mg
namespace Mg
open DL
theorem oR_xr (a b c:V):oR a b c=xr (mn b a) (mn c b):=by unfold oR xr mn;grind
theorem zwc {l:List V} (h:IsShp l) (i:Nat) {c:V} (hc:c∈l) (n1:c≠rnd l i) (n2:c≠rnd l (i+1)):0<xr (mn (rnd l (i+1)) (rnd l i)) (mn c (rnd l (i+1))):=by
 have h0:0<l.length:=by have:=h.three;omega
 have ga:=zae h0 i;have gb:=zae h0 (i+1);rw [<- oR_xr];refine h.conv ((i+1)%l.length) _ _ c ?_ gb hc n1 n2;rw [<- ga];congr 1
 have e:((i+1)%l.length+l.length-1)%l.length=(i+1+l.length-1)%l.length:=by
  rw [Jj (by omega),Kf,<- Jj (by omega)]
 rw [e,show i+1+l.length-1=i+l.length by omega,Wr]
theorem zyh {l:List V} (h:IsShp l) {k:Nat} (hk:k+1<l.length):rnd l (k+1)≠rnd l 0:=fun e=>by
 have h0:0<l.length:=by omega
 have a:=zae h0 0;have b:=zae h0 (k+1);rw [Go] at a;rw [Zt hk] at b;have:=h.first k _ _ a b
 rw [e] at this;exact zpn _ this
theorem zfv {l:List V} (i:Nat):rnd l (i+l.length)=rnd l i:=by unfold rnd;rw [Wr]
theorem other {l:List V} (h:IsShp l) (a:V):∃ c,c∈l/\c≠a:=by
 have h3:=h.three;by_cases e:rnd l 0=a
 ·exact⟨rnd l 1,zay (by omega) 1,fun z=>zyh h (show 0+1<l.length by omega) (by rw [e];exact z)⟩
 ·exact⟨_,zay (by omega) 0,e⟩
theorem yjf {l:List V} (h:IsShp l) (i:Nat):rnd l (i+1)≠rnd l i:=fun e=>by
 refine xa (other h (rnd l i)) fun c hc ne=>?_;have:=zwc h i hc ne (by rw [e];exact ne)
 rw [e] at this;unfold xr mn at this;grind
theorem nx_uq {l r:List V} (hl:IsShp l) (hr:IsShp r) (sub:∀ c∈l,c∈r) (sub':∀ c∈r,c∈l) {i j:Nat} (e:rnd l i=rnd r j):rnd l (i+1)=rnd r (j+1):=by
 refine Yf fun ne=>?_;have l0:0<l.length:=by have:=hl.three;omega
 have r0:0<r.length:=by have:=hr.three;omega
 have a:=zwc hl i (sub' _ (zay r0 (j+1))) (by rw [e];exact yjf hr j) (Wk ne);have b:=zwc hr j (sub _ (zay l0 (i+1))) (by rw [<- e];exact yjf hl i) ne;rw [e] at a;have z:xr (mn (rnd l (i+1)) (rnd r j)) (mn (rnd r (j+1)) (rnd l (i+1))) = - xr (mn (rnd r (j+1)) (rnd r j)) (mn (rnd l (i+1)) (rnd r (j+1))):=by unfold xr mn;grind
 grind
theorem zwu {l r:List V} (hl:IsShp l) (hr:IsShp r) (sub:∀ c∈l,c∈r) (sub':∀ c∈r,c∈l) {i j:Nat} (e:rnd l i=rnd r j):∀ t,rnd l (i+t)=rnd r (j+t)
 | 0=>e
 | t+1=>nx_uq hl hr sub sub' (zwu hl hr sub sub' e t)
theorem nodup {l:List V} (h:IsShp l):l.Nodup:=by
 refine Ky.mpr (Q1.mpr fun i j hi hj hij e=>?_);have h0:0<l.length:=by omega
 have gi:=zae h0 i;have gj:=zae h0 j;rw [Zt hi,Ze hi] at gi;rw [Zt hj,Ze hj] at gj;have e2:rnd l i=rnd l j:=by rw [<- Ye gi,<- Ye gj,e]
 have:=zwu h h (fun _ z=>z) (fun _ z=>z) e2 (l.length-j)
 rw [show j+(l.length-j)=0+l.length by omega,zfv] at this;obtain⟨k,hk⟩:∃ k,i+(l.length-j)=k+1:=⟨i+(l.length-j)-1,by omega⟩
 rw [hk] at this;exact zyh h (by omega) this
theorem eq_mem {l r:List V} (hl:IsShp l) (hr:IsShp r) (sub:∀ c∈l,c∈r) (sub':∀ c∈r,c∈l):l=r:=by
 have l0:0<l.length:=by have:=hl.three;omega
 have r0:0<r.length:=by have:=hr.three;omega
 have low:∀ {m:List V},IsShp m->∀ c∈m,c≠rnd m 0->ltR (rnd m 0) c:=fun {m} hm c hc ne=>by
  have m0:0<m.length:=by have:=hm.three;omega
  refine xb (Yg hc) fun k hk=>?_;have a:=zae m0 0;rw [Go] at a;cases k with
  | zero=>rw [hk] at a;exact absurd (Ye a) ne
  | succ k=>exact hm.first k _ _ a hk
 have e0:rnd l 0=rnd r 0:=Yf fun ne=>by
  have a:=low hl _ (sub' _ (zay r0 0)) (Wk ne);have b:=low hr _ (sub _ (zay l0 0)) ne;exact zpn _ (zin a b)
 have all:=zwu hl hr sub sub' e0;have len:∀ {l r:List V},IsShp l->IsShp r->(∀ t,rnd l (0+t)=rnd r (0+t)) -> ¬ l.length<r.length:=fun {l r} hl hr all lt=>by
  have:=all l.length
  rw [zfv,show rnd l 0=rnd r 0 from all 0,Y8] at this;obtain⟨k,hk⟩:∃ k,l.length=k+1:=⟨l.length-1,by have:=hl.three;omega⟩
  rw [hk] at this lt;exact zyh hr lt this.symm
 have ll:l.length=r.length:=by
  have a:=len hl hr all;have b:=len hr hl fun t=>(all t).symm
  omega
 refine Ji fun i=>?_;rcases Yw i l.length with hi | hi
 ·have a:=zae l0 i;have b:=zae r0 i;rw [Zt hi] at a;rw [Zt (by omega)] at b;have:=all i
  rw [Y8] at this;rw [a,b,this]
 ·rw [Yz hi,Yz (by omega)]
def Lo (l:List V) (d u:V):Prop:=u∈l/\∀ c∈l,0<=xr d (mn c u)
theorem lo_of {l:List V} (d:V):∀ {m:List V},m≠[]->(∀ c∈m,c∈l)->∃ u,u∈l/\∀ c∈m,0<=xr d (mn c u)
 | [x],_,s=>⟨x,s x (.head _),fun c hc=>by rw [Zu.mp hc];unfold xr mn;grind⟩
 | x::y::m,_,s=>by
  refine xa (lo_of d (m:=y::m) (by simp) fun c hc=>s c (.tail _ hc)) fun u hu a=>?_;by_cases k:0<=xr d (mn x u)
  ·refine⟨u,hu,fun c hc=>?_⟩
   rcases Zf.mp hc with e | hc
   ·rw [e];exact k
   ·exact a c hc
  ·refine⟨x,s x (.head _),fun c hc=>?_⟩
   rcases Zf.mp hc with e | hc
   ·rw [e];unfold xr mn;grind
   ·have:=a c hc
    unfold xr mn at *;grind
theorem lo_ex {l:List V} (h:0<l.length) (d:V):∃ u,Lo l d u:=by
 obtain⟨u,a,b⟩:=lo_of (l:=l) d (m:=l) (fun e=>by rw [e] at h;exact absurd h (by decide)) fun _ z=>z
 exact⟨u,a,b⟩
theorem cone {e1 e2 d w:V} (h:0<xr e1 e2) (a:0<=xr d e2) (b:0<=xr e1 d) (c1:0<=xr e1 w) (c2:0<=xr e2 w):0<=xr d w:=by
 refine nn_of_mul h ?_;have e:xr d w*xr e1 e2=xr d e2*xr e1 w+xr e1 d*xr e2 w:=by unfold xr;grind
 rw [e];have:=Zo a c1
 have:=Zo b c2
 grind
theorem side {l:List V} (h:IsShp l) (i:Nat):∀ c∈l,0<=xr (mn (rnd l (i+1)) (rnd l i)) (mn c (rnd l (i+1))):=fun c hc=>by
 by_cases n1:c=rnd l i
 ·rw [n1];unfold xr mn;grind
 ·by_cases n2:c=rnd l (i+1)
  ·rw [n2];unfold xr mn;grind
  ·exact Z5 (zwc h i hc n1 n2)
theorem side' {l:List V} (h:IsShp l) (i:Nat):∀ c∈l,0<=xr (mn (rnd l (i+1)) (rnd l i)) (mn c (rnd l i)):=fun c hc=>by
 have:=side h i c hc
 unfold xr mn at *;grind
theorem turnp {l:List V} (h:IsShp l) (i:Nat):0<xr (mn (rnd l (i+1)) (rnd l i)) (mn (rnd l (i+2)) (rnd l (i+1))):=by
 have h3:=h.three;have h0:0<l.length:=by omega
 refine zwc h i (zay h0 (i+2)) (fun e=>?_) (yjf h (i+1));have:=zkx (nodup h) h0 e
 have m1:=Qj i h0;rw [Uv] at this;rcases Yw (i%l.length+2) l.length with k | k
 ·rw [Zt (show 2<l.length by omega),Zt k] at this;omega
 ·rw [Zt (show 2<l.length by omega),show i%l.length+2=(i%l.length+2-l.length)+l.length by omega,Wr,Zt (by omega)] at this;omega
end Mg
namespace Mg
open DL
theorem sumN {l r:List V} (hl:IsShp l) (hr:IsShp r):IsShp (sumL l r):=zvl hl (nodup hl) hr (nodup hr)
theorem yim {n i:Nat} (h:0<n):((i+1)%n+n-1)%n=i%n:=by
 rw [Jj (by omega),Kf,<- Jj (by omega),show i+1+n-1=i+n by omega,Wr]
theorem low2 {l r:List V} (hl:IsShp l) (hr:IsShp r) (i:Nat):∃ u v,u∈l/\v∈r/\rnd (sumL l r) i=pl u v/\(∀ c∈l,0<=xr (mn (rnd (sumL l r) (i+1)) (rnd (sumL l r) i)) (mn c u))/\∀ c∈r,0<=xr (mn (rnd (sumL l r) (i+1)) (rnd (sumL l r) i)) (mn c v):=by
 have h0:0<(sumL l r).length:=by have:=(sumN hl hr).three;omega
 have ga:=zae h0 i;have gb:=zae h0 (i+1);refine vz (yhl hl (nodup hl) hr (nodup hr) (k:=(i+1)%(sumL l r).length) (by rw [yim h0];exact ga) gb) fun u hu v hv e a b=>?_;exact⟨u,v,hu,hv,e,a,b⟩
theorem zbc {l r:List V} (hl:IsShp l) (hr:IsShp r) (d:V):∃ u v,Lo l d u/\Lo r d v/\Lo (sumL l r) d (pl u v):=by
 have hF:=sumN hl hr;have h0:0<(sumL l r).length:=by have:=hF.three;omega
 refine xa (lo_ex h0 d) fun b hb lo=>?_;refine xb (zlj hb) fun k ek=>?_;have e1:rnd (sumL l r) (k+(sumL l r).length-1+1)=b:=by rw [show k+(sumL l r).length-1+1=k+(sumL l r).length by omega,zfv,ek]
 generalize k+(sumL l r).length-1=i at e1;refine xm (low2 hl hr i) fun u' v' _ _ e' a1 b1=>?_;refine xm (low2 hl hr (i+1)) fun u v hu hv e a2 b2=>?_;have tp:=turnp hF i;have c1:=lo _ (zay h0 i);have c2:=lo _ (zay h0 (i+2));rw [show i+1+1=i+2 from rfl] at a2 b2;rw [e1] at a1 b1 a2 b2 e tp;generalize rnd (sumL l r) i=p at *;generalize rnd (sumL l r) (i+2)=q at *;have z1:=a1 u hu;have z2:=b1 v hv;have z:xr (mn b p) (mn u u')+xr (mn b p) (mn v v')=0:=by
  have:xr (mn b p) (mn b p)=0:=zhl _
  rw [e,e'] at this |-;unfold xr mn pl at *;grind
 have y1:xr (mn b p) (mn u u')=0:=by grind
 have y2:xr (mn b p) (mn v v')=0:=by grind
 have f1:∀ c∈l,0<=xr (mn b p) (mn c u):=fun c hc=>by
  have:=a1 c hc
  unfold xr mn at *;grind
 have f2:∀ c∈r,0<=xr (mn b p) (mn c v):=fun c hc=>by
  have:=b1 c hc
  unfold xr mn at *;grind
 have g:0<=xr (mn b p) d:=by
  have e3:xr (mn b p) d=xr d (mn p b):=by unfold xr mn;grind
  rw [e3];exact c1
 exact⟨u,v,⟨hu,fun c hc=>cone tp c2 g (f1 c hc) (a2 c hc)⟩,⟨hv,fun c hc=>cone tp c2 g (f2 c hc) (b2 c hc)⟩,by rw [<- e];exact⟨hb,lo⟩⟩
def Sm (l r:List V):Prop:=∀ d,∃ b g,Lo l d b/\Lo r d g/\xr d b=xr d g
theorem Sm.symm {l r:List V} (h:Sm l r):Sm r l:=fun d=>by
 refine xc (h d) fun b g x y z=>?_;exact⟨g,b,y,x,z.symm⟩
theorem zds {l:List V} {d u v:V} (h:Lo l d u) (k:Lo l d v):xr d u=xr d v:=by
 have a:=h.2 v k.1;have b:=k.2 u h.1;unfold xr mn at *;grind
theorem Sm.le {l r:List V} (h:Sm l r) {d b:V} (lb:Lo l d b):∀ c∈r,0<=xr d (mn c b):=fun c hc=>by
 refine xc (h d) fun b' g x y z=>?_;have e:=zds lb x;have:=y.2 c hc
 unfold xr mn at *;grind
theorem Sm.at {l r:List V} (h:Sm l r) {d b:V} (lb:Lo l d b):∃ g,Lo r d g/\xr d g=xr d b:=by
 refine xc (h d) fun b' g x y z=>?_;exact⟨g,y,by rw [<- z];exact (zds lb x).symm⟩
theorem Sm.sub {l r:List V} (hl:IsShp l) (h:Sm l r):∀ c∈l,c∈r:=fun b hb=>by
 have h0:0<l.length:=by have:=hl.three;omega
 refine xb (zlj hb) fun k ek=>?_;have e1:rnd l (k+l.length-1+1)=b:=by rw [show k+l.length-1+1=k+l.length by omega,zfv,ek]
 generalize k+l.length-1=i at e1;have tp:=turnp hl i;have s1:=side hl i;have s2:=side' hl (i+1);rw [show i+1+1=i+2 from rfl] at s2;rw [e1] at tp s1 s2;generalize rnd l i=p at *;generalize rnd l (i+2)=q at *;have m1:=h.le ⟨hb,s1⟩;have m2:=h.le ⟨hb,s2⟩;obtain⟨g,lg,eg⟩:=h.at (d:=pl (mn b p) (mn q b)) (b:=b) ⟨hb,fun c hc=>by
  rw [zji];have:=s1 c hc
  have:=s2 c hc
  grind⟩
 have n1:=m1 g lg.1;have n2:=m2 g lg.1;rw [zji,zji] at eg;have k1:xr (mn b p) (mn g b)=0:=by unfold xr mn at *;grind
 have k2:xr (mn q b) (mn g b)=0:=by unfold xr mn at *;grind
 have e:g=b:=by
  have w1:(g.1-b.1)*xr (mn b p) (mn q b)=0:=by
   have:(g.1-b.1)*xr (mn b p) (mn q b)=(mn b p).1*xr (mn q b) (mn g b)*(-1)+(mn q b).1*xr (mn b p) (mn g b):=by unfold xr mn;grind
   rw [this,k1,k2];grind
  have w2:(g.2-b.2)*xr (mn b p) (mn q b)=0:=by
   have:(g.2-b.2)*xr (mn b p) (mn q b)=(mn b p).2*xr (mn q b) (mn g b)*(-1)+(mn q b).2*xr (mn b p) (mn g b):=by unfold xr mn;grind
   rw [this,k1,k2];grind
  have t0:xr (mn b p) (mn q b)≠0:=by grind
  have z1:=(Ub.mp w1).resolve_right t0;have z2:=(Ub.mp w2).resolve_right t0;exact Yv (by grind) (by grind)
 rw [<- e];exact lg.1
theorem zhz {l r:List V} (hl:IsShp l) (hr:IsShp r) (h:Sm l r):l=r:=eq_mem hl hr (h.sub hl) (h.symm.sub hr)
theorem zkr {l r:List V} (hl:IsShp l) (hr:IsShp r):sumL l r=sumL r l:=zhz (sumN hl hr) (sumN hr hl) fun d=>by
 refine xc (zbc hl hr d) fun u v a b c=>?_;refine xc (zbc hr hl d) fun v' u' b' a' c'=>?_;refine⟨_,_,c,c',?_⟩
 rw [zbe,zbe,zds a a',zds b b'];grind
theorem zvn {l r s:List V} (hl:IsShp l) (hr:IsShp r) (hs:IsShp s):sumL (sumL l r) s=sumL l (sumL r s):=zhz (sumN (sumN hl hr) hs) (sumN hl (sumN hr hs)) fun d=>by
 refine xc (zbc (sumN hl hr) hs d) fun x w a b c=>?_;refine xc (zbc hl hr d) fun u v a1 b1 c1=>?_;refine xc (zbc hl (sumN hr hs) d) fun u' y a' b' c'=>?_;refine xc (zbc hr hs d) fun v' w' a2 b2 c2=>?_;refine⟨_,_,c,c',?_⟩
 rw [zbe,zbe,zds a c1,zds b' c2,zbe,zbe,zds a1 a',zds b1 a2,zds b b2];grind
theorem zxt {l:List V} {f:V->V} {d e:V} (hf:∀ a b,0<=xr e (mn a b)->0<=xr d (mn (f a) (f b))) {u:V} (h:Lo l e u):Lo (l.map f) d (f u):=⟨Z7 h.1,fun c hc=>by
 refine xa (Z1.mp hc) fun p hp q=>?_;rw [<- q];exact hf p u (h.2 p hp)⟩
theorem zxs {l:List V} {d u:V} (p:V) (h:Lo l d u):Lo (l.map (pl p)) d (pl p u):=zxt (fun a b h=>by unfold xr mn pl at *;grind) h
def sc (x:Rat) (q:V):V:=(q.1*x,q.2*x)
theorem zgb {l:List V} {d u:V} {x:Rat} (hx:0<=x) (h:Lo l d u):Lo (l.map (sc x)) d (sc x u):=zxt (fun a b h=>by
 have e:xr d (mn (sc x a) (sc x b))=x*xr d (mn a b):=by unfold xr mn sc;grind
 rw [e];exact Zo hx h) h
theorem zpo {l:List V} {d u:V} (h:Lo l (ng d) u):Lo (l.map ng) d (ng u):=zxt (fun a b h=>by unfold xr mn ng at *;grind) h
theorem zxr {l:List V} {d u:V} (k:Nat) (h:Lo l d u):Lo (rot l k) d u:=⟨rot_mem.mpr h.1,fun c hc=>h.2 c (rot_mem.mp hc)⟩
theorem zqr {l r:List V} {p:V} (hl:IsShp l) (hr:IsShp r) (h1:IsShp (l.map (pl p))) (h2:IsShp ((sumL l r).map (pl p))):sumL (l.map (pl p)) r=(sumL l r).map (pl p):=zhz (sumN h1 hr) h2 fun d=>by
 refine xc (zbc h1 hr d) fun x v a b c=>?_;refine xc (zbc hl hr d) fun u v' a' b' c'=>?_;refine⟨_,_,c,zxs p c',?_⟩
 rw [zbe,zds a (zxs p a'),zds b b',zbe,zbe,zbe];grind
theorem zet (d q:V) (x:Rat):xr d (sc x q)=x*xr d q:=by unfold xr sc;grind
theorem ybi {l r:List V} {x:Rat} (hx:0<=x) (hl:IsShp l) (hr:IsShp r) (h1:IsShp (l.map (sc x))) (h2:IsShp (r.map (sc x))) (h3:IsShp ((sumL l r).map (sc x))):sumL (l.map (sc x)) (r.map (sc x))=(sumL l r).map (sc x):=zhz (sumN h1 h2) h3 fun d=>by
 refine xc (zbc h1 h2 d) fun u v a b c=>?_;refine xc (zbc hl hr d) fun u' v' a' b' c'=>?_;refine⟨_,_,c,zgb hx c',?_⟩
 rw [zbe,zds a (zgb hx a'),zds b (zgb hx b'),zet,zet,zet,zbe];grind
theorem ybg {l r:List V} {i j k:Nat} (hl:IsShp l) (hr:IsShp r) (h1:IsShp (rot (l.map ng) i)) (h2:IsShp (rot (r.map ng) j)) (h3:IsShp (rot ((sumL l r).map ng) k)):sumL (rot (l.map ng) i) (rot (r.map ng) j)=rot ((sumL l r).map ng) k:=zhz (sumN h1 h2) h3 fun d=>by
 refine xc (zbc h1 h2 d) fun u v a b c=>?_;refine xc (zbc hl hr (ng d)) fun u' v' a' b' c'=>?_;refine⟨_,_,c,zxr k (zpo c'),?_⟩
 rw [zbe,zds a (zxr i (zpo a')),zds b (zxr j (zpo b'))];unfold xr ng pl;grind
theorem ybj {l:List V} (hl:IsShp l) (h:IsShp (l.map (sc 2))):sumL l l=l.map (sc 2):=zhz (sumN hl hl) h fun d=>by
 refine xc (zbc hl hl d) fun u v a b c=>?_;refine⟨_,_,c,zgb (by decide) a,?_⟩
 rw [zbe,zet,zds b a];grind
end Mg
namespace Mg
open DL
structure Wt where
 u:V
 x:Rat
 y:Rat
def sx:List Wt->V
 | []=>(0,0)
 | t::l=>pl (sc t.x t.u) (sx l)
def sy:List Wt->V
 | []=>(0,0)
 | t::l=>pl (sc t.y t.u) (sy l)
def tx:List Wt->Rat
 | []=>0
 | t::l=>t.x*xr t.u (sx l)+tx l
def ty:List Wt->Rat
 | []=>0
 | t::l=>t.y*xr t.u (sy l)+ty l
def tb:List Wt->Rat
 | []=>0
 | t::l=>t.x*xr t.u (sy l)+t.y*xr t.u (sx l)+tb l
def Gd (A B:List Wt):Prop:=4*((tx A+tx B)*(ty A+ty B))<=(tb A+tb B)*(tb A+tb B)
structure Rw (A:List Wt):Prop where
 x:∀ t∈A,0<=t.x
 y:∀ t∈A,0<=t.y
 o:A.Pairwise fun s t=>0<xr s.u t.u
theorem Rw.tail {t:Wt} {A:List Wt} (h:Rw (t::A)):Rw A:=⟨fun s hs=>h.x s (.tail _ hs),fun s hs=>h.y s (.tail _ hs),(Z9.mp h.o).2⟩
theorem xr_sx {v:V}:∀ {A:List Wt},(∀ t∈A,0<=t.x)->(∀ t∈A,0<=xr v t.u)->0<=xr v (sx A)
 | [],_,_=>by show 0<=xr v (0,0);rw [xr_0];exact Qe
 | t::A,h1,h2=>by
  show 0<=xr v (pl (sc t.x t.u) (sx A));rw [zbe,zet];have a:=Zo (h1 t (.head _)) (h2 t (.head _));have b:=xr_sx (fun s hs=>h1 s (.tail _ hs)) (fun s hs=>h2 s (.tail _ hs)) (v:=v) (A:=A);grind
theorem xr_sy {v:V}:∀ {A:List Wt},(∀ t∈A,0<=t.y)->(∀ t∈A,0<=xr v t.u)->0<=xr v (sy A)
 | [],_,_=>by show 0<=xr v (0,0);rw [xr_0];exact Qe
 | t::A,h1,h2=>by
  show 0<=xr v (pl (sc t.y t.u) (sy A));rw [zbe,zet];have a:=Zo (h1 t (.head _)) (h2 t (.head _));have b:=xr_sy (fun s hs=>h1 s (.tail _ hs)) (fun s hs=>h2 s (.tail _ hs)) (v:=v) (A:=A);grind
theorem Rw.pos:∀ {A:List Wt},Rw A->0<=tx A/\0<=ty A/\0<=tb A
 | [],_=>⟨Qe,Qe,Qe⟩
 | t::A,h=>by
  refine xi (Rw.pos h.tail) fun a b c=>?_;have o:=(Z9.mp h.o).1;have p1:=xr_sx (fun s hs=>h.x s (.tail _ hs)) fun s hs=>Z5 (o s hs)
  have p2:=xr_sy (fun s hs=>h.y s (.tail _ hs)) fun s hs=>Z5 (o s hs)
  have x0:=h.x t (.head _);have y0:=h.y t (.head _);have q1:=Zo x0 p1;have q2:=Zo y0 p2;have q3:=Zo x0 p2;have q4:=Zo y0 p1;refine⟨?_,?_,?_⟩
  ·show 0<=t.x*xr t.u (sx A)+tx A;grind
  ·show 0<=t.y*xr t.u (sy A)+ty A;grind
  ·show 0<=t.x*xr t.u (sy A)+t.y*xr t.u (sx A)+tb A;grind
theorem zti (a:Rat):0<=a*a:=by
 by_cases h:0<=a
 ·exact Zo h h
 ·have:=Zo (show 0 <= -a by grind) (show 0 <= -a by grind)
  grind
theorem yhm {D1 D2 B c s t:Rat} (h:4*(D1*D2)<=B*B) (hc:0<=c) (p1:0<=D1-c*(s*s)) (p2:0<=D2-c*(t*t)):4*((D1-c*(s*s))*(D2-c*(t*t)))<=(B-2*c*(s*t))*(B-2*c*(s*t)):=by
 have cs:=Zo hc (zti s);have d1:0<=D1:=by grind
 by_cases z:D1=0
 ·have e:D1-c*(s*s)=0:=by grind
  rw [e,K8,Rat.mul_zero];exact zti _
 ·have d:0<D1:=by grind
  have k:0<=((B-2*c*(s*t))*(B-2*c*(s*t))-4*((D1-c*(s*s))*(D2-c*(t*t))))*D1:=by
   have e:((B-2*c*(s*t))*(B-2*c*(s*t))-4*((D1-c*(s*s))*(D2-c*(t*t))))*D1=(B*B-4*(D1*D2))*(D1-c*(s*s))+c*((2*D1*t-B*s)*(2*D1*t-B*s)):=by grind
   rw [e];have a:=Zo (show 0<=B*B-4*(D1*D2) by grind) p1;have b:=Zo hc (zti (2*D1*t-B*s));grind
  have:=nn_of_mul d k
  grind
end Mg
namespace Mg
open DL
theorem tx1 (t:Wt):tx [t]=0/\ty [t]=0/\tb [t]=0:=by
 refine⟨?_,?_,?_⟩
 ·show t.x*xr t.u (0,0)+0=0;rw [xr_0];grind
 ·show t.y*xr t.u (0,0)+0=0;rw [xr_0];grind
 ·show t.x*xr t.u (0,0)+t.y*xr t.u (0,0)+0=0;rw [xr_0];grind
theorem tx2 (s t:Wt):tx [s,t]=s.x*t.x*xr s.u t.u/\ty [s,t]=s.y*t.y*xr s.u t.u/\tb [s,t]=(s.x*t.y+s.y*t.x)*xr s.u t.u:=by
 refine xi (tx1 t) fun a b c=>?_;refine⟨?_,?_,?_⟩
 ·show s.x*xr s.u (pl (sc t.x t.u) (0,0))+tx [t]=_;rw [a,zbe,zet,xr_0];grind
 ·show s.y*xr s.u (pl (sc t.y t.u) (0,0))+ty [t]=_;rw [b,zbe,zet,xr_0];grind
 ·show s.x*xr s.u (pl (sc t.y t.u) (0,0))+s.y*xr s.u (pl (sc t.x t.u) (0,0))+tb [t]=_;rw [c,zbe,zbe,zet,zet,xr_0];grind
theorem ygc {A:List Wt} (h:A.length<=2):4*(tx A*ty A)<=tb A*tb A:=by
 match A,h with
 | [],_=>show 4*((0:Rat)*0)<=0*0;grind
 | [t],_=>
  refine xi (tx1 t) fun a b c=>?_;rw [a,b,c];grind
 | [s,t],_=>
  refine xi (tx2 s t) fun a b c=>?_;rw [a,b,c];have:=zti ((s.x*t.y-s.y*t.x)*xr s.u t.u)
  grind
theorem yfs {A:List Wt} (h:A.length<=1):tx A=0/\ty A=0/\tb A=0:=by
 match A,h with
 | [],_=>exact⟨rfl,rfl,rfl⟩
 | [t],_=>exact tx1 t
theorem elim {t1 t2 t3:Wt} {L:List Wt} {a b:Rat} (e:t2.u=pl (sc a t1.u) (sc b t3.u)) :
  sx (⟨t1.u,t1.x+a*t2.x,t1.y+a*t2.y⟩::⟨t3.u,t3.x+b*t2.x,t3.y+b*t2.y⟩::L)=sx (t1::t2::t3::L) /\
  sy (⟨t1.u,t1.x+a*t2.x,t1.y+a*t2.y⟩::⟨t3.u,t3.x+b*t2.x,t3.y+b*t2.y⟩::L)=sy (t1::t2::t3::L) /\
  tx (⟨t1.u,t1.x+a*t2.x,t1.y+a*t2.y⟩::⟨t3.u,t3.x+b*t2.x,t3.y+b*t2.y⟩::L)=tx (t1::t2::t3::L)+a*b*xr t1.u t3.u*(t2.x*t2.x) /\
  ty (⟨t1.u,t1.x+a*t2.x,t1.y+a*t2.y⟩::⟨t3.u,t3.x+b*t2.x,t3.y+b*t2.y⟩::L)=ty (t1::t2::t3::L)+a*b*xr t1.u t3.u*(t2.y*t2.y) /\
  tb (⟨t1.u,t1.x+a*t2.x,t1.y+a*t2.y⟩::⟨t3.u,t3.x+b*t2.x,t3.y+b*t2.y⟩::L)=tb (t1::t2::t3::L)+2*(a*b*xr t1.u t3.u)*(t2.x*t2.y):=by
 obtain⟨⟨p,p'⟩,x1,y1⟩:=t1
 obtain⟨⟨q,q'⟩,x2,y2⟩:=t2
 obtain⟨⟨r,r'⟩,x3,y3⟩:=t3
 unfold pl sc at e;dsimp only at e;have e1:q=p*a+r*b:=congrArg Prod.fst e;have e2:q'=p'*a+r'*b:=congrArg Prod.snd e;subst e1;subst e2;simp only [sx,sy,tx,ty,tb];generalize sx L=X;generalize sy L=Y;generalize tx L=T1;generalize ty L=T2;generalize tb L=T3;obtain⟨X1,X2⟩:=X
 obtain⟨Y1,Y2⟩:=Y
 simp only [pl,sc,xr];refine⟨Yv ?_ ?_,Yv ?_ ?_,?_,?_,?_⟩
 all_goals (try dsimp only)
 all_goals grind
theorem mid_of {u1 u2 u3:V} (h:0<xr u1 u3):u2=pl (sc (xr u2 u3/xr u1 u3) u1) (sc (xr u1 u2/xr u1 u3) u3):=by
 have h0:xr u1 u3≠0:=by grind
 have k:∀ z:Rat,z/xr u1 u3=z*(xr u1 u3)⁻¹:=fun z=>W0 ..
 have i:xr u1 u3*(xr u1 u3)⁻¹=1:=U1 _ h0;rw [k,k];generalize hi:(xr u1 u3)⁻¹=z at *;unfold xr at *;unfold pl sc;refine Yv ?_ ?_
 all_goals dsimp only
 all_goals grind
end Mg
namespace Mg
open DL
theorem z_of {a b c:Rat} (ha:0<=a) (hb:0<=b) (hc:0<=c) (h:a+b+c=0):a=0/\b=0/\c=0:=⟨by grind,by grind,by grind⟩
theorem yak {a b:Rat} (hb:0<b) (h:a*b=0):a=0:=(Ub.mp h).resolve_right (by grind)
theorem yjw {s1 s2 t1 t2:Wt} (hA:Rw [s1,s2]) (hB:Rw [t1,t2]) (u1:up s1.u) (u2:up s2.u) (n1:up (ng t1.u)) (n2:up (ng t2.u)) (cx:pl (sx [s1,s2]) (sx [t1,t2])=(0,0)) (cy:pl (sy [s1,s2]) (sy [t1,t2])=(0,0)):Gd [s1,s2] [t1,t2]:=by
 have X0:0<xr s1.u s2.u:=(Z9.mp hA.o).1 s2 (.head _);have Y0:0<xr t1.u t2.u:=(Z9.mp hB.o).1 t2 (.head _);have p0:=hA.x s1 (.head _);have q0:=hA.x s2 (.tail _ (.head _));have r0:=hB.x t1 (.head _);have w0:=hB.x t2 (.tail _ (.head _));refine xi (tx2 s1 s2) fun a1 a2 a3=>?_;refine xi (tx2 t1 t2) fun b1 b2 b3=>?_;have lin:∀ v,s1.x*xr v s1.u+s2.x*xr v s2.u+(t1.x*xr v t1.u+t2.x*xr v t2.u)=0:=fun v=>by
  have h:xr v (pl (sx [s1,s2]) (sx [t1,t2]))=xr v (0,0):=by rw [cx]
  simp only [sx,zbe,zet,xr_0] at h;grind
 have liny:∀ v,s1.y*xr v s1.u+s2.y*xr v s2.u+(t1.y*xr v t1.u+t2.y*xr v t2.u)=0:=fun v=>by
  have h:xr v (pl (sy [s1,s2]) (sy [t1,t2]))=xr v (0,0):=by rw [cy]
  simp only [sy,zbe,zet,xr_0] at h;grind
 have tz:tx [s1,s2]+tx [t1,t2]=0->Gd [s1,s2] [t1,t2]:=fun z=>by
  unfold Gd;rw [z,K8,Rat.mul_zero];exact zti _
 by_cases c1:0<=xr s2.u t1.u
 ·by_cases c2:0<=xr t2.u s1.u
  ·have l1:=lin t2.u;have l2:=lin t1.u;have m1:=liny t2.u;have m2:=liny t1.u;rw [zhl] at l1 l2 m1 m2;have e1:xr t2.u t1.u = - xr t1.u t2.u:=B8 _ _;have e2:xr t1.u s1.u = - xr s1.u t1.u:=B8 _ _;have e3:xr t1.u s2.u = - xr s2.u t1.u:=B8 _ _;have e4:xr t2.u s1.u = - xr s1.u t2.u:=B8 _ _;have e5:xr t2.u s2.u = - xr s2.u t2.u:=B8 _ _;have plk:xr s1.u s2.u*xr t1.u t2.u=xr s1.u t1.u*xr s2.u t2.u-xr s1.u t2.u*xr s2.u t1.u:=by unfold xr;grind
   unfold Gd;rw [a1,a2,a3,b1,b2,b3];rw [e1,e4,e5] at l1 m1;rw [e2,e3] at l2 m2;rw [e4] at c2;generalize xr s1.u s2.u=X at *;generalize xr t1.u t2.u=Y at *;generalize xr s1.u t1.u=m11 at *;generalize xr s1.u t2.u=m12 at *;generalize xr s2.u t1.u=m21 at *;generalize xr s2.u t2.u=m22 at *;generalize s1.x=p at *;generalize s2.x=q at *;generalize t1.x=r at *;generalize t2.x=s at *;generalize s1.y=p' at *;generalize s2.y=q' at *;generalize t1.y=r' at *;generalize t2.y=s' at *;have rY:r*Y = -(p*m12+q*m22):=by grind
   have sY:s*Y=p*m11+q*m21:=by grind
   have rY':r'*Y = -(p'*m12+q'*m22):=by grind
   have sY':s'*Y=p'*m11+q'*m21:=by grind
   have f1:Y*(p*q*X+r*s*Y) = -(m11*m12*(p*p)+2*(m12*m21)*(p*q)+m21*m22*(q*q)):=by
    have:Y*(p*q*X+r*s*Y)=p*q*(X*Y)+(r*Y)*(s*Y):=by grind
    rw [this,plk,rY,sY];grind
   have f2:Y*(p'*q'*X+r'*s'*Y) = -(m11*m12*(p'*p')+2*(m12*m21)*(p'*q')+m21*m22*(q'*q')):=by
    have:Y*(p'*q'*X+r'*s'*Y)=p'*q'*(X*Y)+(r'*Y)*(s'*Y):=by grind
    rw [this,plk,rY',sY'];grind
   have f3:Y*((p*q'+p'*q)*X+(r*s'+r'*s)*Y) = -(2*(m11*m12*(p*p')+m12*m21*(p*q'+p'*q)+m21*m22*(q*q'))):=by
    have:Y*((p*q'+p'*q)*X+(r*s'+r'*s)*Y)=(p*q'+p'*q)*(X*Y)+((r*Y)*(s'*Y)+(r'*Y)*(s*Y)):=by grind
    rw [this,plk,rY,sY,rY',sY'];grind
   generalize p*q*X+r*s*Y=T1 at *;generalize p'*q'*X+r'*s'*Y=T2 at *;generalize (p*q'+p'*q)*X+(r*s'+r'*s)*Y=T3 at *;have g:(T3*T3-4*(T1*T2))*(Y*Y)=4*((-m12)*m21)*(X*Y)*((p*q'-p'*q)*(p*q'-p'*q)):=by
    have:(T3*T3-4*(T1*T2))*(Y*Y)=(Y*T3)*(Y*T3)-4*((Y*T1)*(Y*T2)):=by grind
    rw [this,f1,f2,f3,plk];grind
   have pos:=Zo (Zo (Zo (show (0:Rat)<=4 by decide) (Zo c2 c1)) (Z5 (Wa X0 Y0))) (zti (p*q'-p'*q));rw [<- g] at pos;have:=nn_of_mul (Wa Y0 Y0) pos
   grind
  ·have l:=lin t2.u;rw [zhl] at l;have k1:xr t2.u s1.u<0:=by grind
   have k2:xr t2.u s2.u<0:=by
    have:=tr_lt1 n2 u1 u2 (by rw [zhm];grind) (Z5 X0)
    rw [zhm] at this;grind
   have k3:xr t2.u t1.u<0:=by rw [B8];grind
   have z:=z_of (Zo p0 (show 0 <= - xr t2.u s1.u by grind)) (Zo q0 (show 0 <= - xr t2.u s2.u by grind)) (Zo r0 (show 0 <= - xr t2.u t1.u by grind)) (by grind);have z1:=yak (show 0 < - xr t2.u s1.u by grind) z.1;have z3:=yak (show 0 < - xr t2.u t1.u by grind) z.2.2;refine tz ?_;rw [a1,b1,z1,z3];grind
 ·have l:=lin t1.u;rw [zhl] at l;have k1:0<xr t1.u s2.u:=by rw [B8];grind
  have k2:0<xr t1.u s1.u:=by
   have:=tr_lt1 u1 u2 n1 X0 (by rw [zjr];grind)
   rw [zjr,<- B8] at this;exact this
  have z:=z_of (Zo p0 (Z5 k2)) (Zo q0 (Z5 k1)) (Zo w0 (Z5 Y0)) (by grind);have z1:=yak k2 z.1;have z3:=yak Y0 z.2.2;refine tz ?_;rw [a1,b1,z1,z3];grind
theorem Gd.comm {A B:List Wt} (h:Gd A B):Gd B A:=by
 unfold Gd at *;rw [Ud (tx B),Ud (ty B),Ud (tb B)];exact h
theorem Gd.less {A B A':List Wt} {c s t:Rat} (h:Gd A' B) (hc:0<=c) (e1:tx A'=tx A+c*(s*s)) (e2:ty A'=ty A+c*(t*t)) (e3:tb A'=tb A+2*c*(s*t)) (pA:Rw A) (pB:Rw B):Gd A B:=by
 refine xi pA.pos fun a1 a2 _=>?_;refine xi pB.pos fun b1 b2 _=>?_;unfold Gd at *;have:=yhm h hc (s:=s) (t:=t) (by rw [e1];grind) (by rw [e2];grind)
 rw [e1,e2,e3] at this;have f1:tx A+c*(s*s)+tx B-c*(s*s)=tx A+tx B:=by grind
 have f2:ty A+c*(t*t)+ty B-c*(t*t)=ty A+ty B:=by grind
 have f3:tb A+2*c*(s*t)+tb B-2*c*(s*t)=tb A+tb B:=by grind
 rw [f1,f2,f3] at this;exact this
theorem fewer {t1 t2 t3:Wt} {L:List Wt} (h:Rw (t1::t2::t3::L)):∃ s1 s3:Wt,s1.u=t1.u/\s3.u=t3.u/\Rw (s1::s3::L)/\sx (s1::s3::L)=sx (t1::t2::t3::L)/\sy (s1::s3::L)=sy (t1::t2::t3::L)/\∀ B,Rw B->Gd (s1::s3::L) B->Gd (t1::t2::t3::L) B:=by
 refine xg (Z9.mp h.o) fun o1 o2=>?_;refine xg (Z9.mp o2) fun o3 o4=>?_;refine xg (Z9.mp o4) fun o5 o6=>?_;have k13:=o1 t3 (.tail _ (.head _));have k12:=o1 t2 (.head _);have k23:=o3 t3 (.head _);refine xv (elim (L:=L) (mid_of (u2:=t2.u) k13)) fun e1 e2 e3 e4 e5=>?_;have dv:∀ {z:Rat},0<z->0<=z/xr t1.u t3.u:=fun {z} hz=>by
  rw [W0];exact Zo (Z5 hz) (Z5 (Jp.mpr k13))
 have pa:=dv k23;have pb:=dv k12;generalize xr t2.u t3.u/xr t1.u t3.u=a at *;generalize xr t1.u t2.u/xr t1.u t3.u=b at *;have x1:=h.x t1 (.head _);have x2:=h.x t2 (.tail _ (.head _));have x3:=h.x t3 (.tail _ (.tail _ (.head _)));have y1:=h.y t1 (.head _);have y2:=h.y t2 (.tail _ (.head _));have y3:=h.y t3 (.tail _ (.tail _ (.head _)));refine⟨⟨t1.u,t1.x+a*t2.x,t1.y+a*t2.y⟩,⟨t3.u,t3.x+b*t2.x,t3.y+b*t2.y⟩,rfl,rfl,⟨fun t ht=>?_,fun t ht=>?_,?_⟩,e1,e2,fun B hB g=>?_⟩
 ·rcases Zf.mp ht with e | ht
  ·rw [e];have:=Zo pa x2;show 0<=t1.x+a*t2.x;grind
  ·rcases Zf.mp ht with e | ht
   ·rw [e];have:=Zo pb x2;show 0<=t3.x+b*t2.x;grind
   ·exact h.x t (.tail _ (.tail _ (.tail _ ht)))
 ·rcases Zf.mp ht with e | ht
  ·rw [e];have:=Zo pa y2;show 0<=t1.y+a*t2.y;grind
  ·rcases Zf.mp ht with e | ht
   ·rw [e];have:=Zo pb y2;show 0<=t3.y+b*t2.y;grind
   ·exact h.y t (.tail _ (.tail _ (.tail _ ht)))
 ·refine Z9.mpr ⟨fun t ht=>?_,Z9.mpr ⟨fun t ht=>o5 t ht,o6⟩⟩;rcases Zf.mp ht with e | ht
  ·rw [e];exact k13
  ·exact o1 t (.tail _ (.tail _ ht))
 ·exact g.less (Zo (Zo pa pb) (Z5 k13)) e3 e4 e5 h hB
theorem two_of {A:List Wt} (h:A.length<=2) (k:¬ A.length<=1):∃ s t,A=[s,t]:=by
 cases A with
 | nil=>exact absurd (Yc _) k
 | cons s A=>
  cases A with
  | nil=>exact absurd (Zg _) k
  | cons t A=>
   cases A with
   | nil=>exact⟨s,t,rfl⟩
   | cons u A=>exact absurd (Jx (Jx h)) (Nat.not_succ_le_zero _)
theorem zqn {A:List Wt} (h:¬ A.length<=2):∃ t1 t2 t3 L,A=t1::t2::t3::L:=by
 cases A with
 | nil=>exact absurd (Yc _) h
 | cons s A=>
  cases A with
  | nil=>exact absurd (Jq _) h
  | cons t A=>
   cases A with
   | nil=>exact absurd (Zg _) h
   | cons u A=>exact⟨s,t,u,A,rfl⟩
theorem yfa {q:V->Prop} {t1 t2 t3 s1 s3:Wt} {L:List Wt} (h:∀ t∈t1::t2::t3::L,q t.u) (e1:s1.u=t1.u) (e3:s3.u=t3.u):∀ t∈s1::s3::L,q t.u:=fun t ht=>by
 rcases Zf.mp ht with e | ht
 ·rw [e,e1];exact h _ (.head _)
 ·rcases Zf.mp ht with e | ht
  ·rw [e,e3];exact h _ (.tail _ (.tail _ (.head _)))
  ·exact h _ (.tail _ (.tail _ (.tail _ ht)))
theorem ygd {A B:List Wt} (a3:A.length<=2) (b3:B.length<=2) (hA:Rw A) (hB:Rw B) (uA:∀ t∈A,up t.u) (uB:∀ t∈B,up (ng t.u)) (cx:pl (sx A) (sx B)=(0,0)) (cy:pl (sy A) (sy B)=(0,0)):Gd A B:=by
 by_cases a1:A.length<=1
 ·refine xi (yfs a1) fun z1 z2 z3=>?_;have:=ygc b3
  unfold Gd;rw [z1,z2,z3,Ua,Ua,Ua];exact this
 ·by_cases b1:B.length<=1
  ·refine xi (yfs b1) fun z1 z2 z3=>?_;have:=ygc a3
   unfold Gd;rw [z1,z2,z3,Gm,Gm,Gm];exact this
  ·refine xl (two_of a3 a1) fun s1 s2 e=>?_;refine xl (two_of b3 b1) fun t1 t2 e'=>?_;subst e;subst e';exact yjw hA hB (uA _ (.head _)) (uA _ (.tail _ (.head _))) (uB _ (.head _)) (uB _ (.tail _ (.head _))) cx cy
theorem mink:∀ (n:Nat) (A B:List Wt),A.length+B.length<=n->Rw A->Rw B->(∀ t∈A,up t.u)->(∀ t∈B,up (ng t.u))->pl (sx A) (sx B)=(0,0)->pl (sy A) (sy B)=(0,0)->Gd A B
 | 0,A,B,hn,hA,hB,uA,uB,cx,cy=>ygd (Yn (Yn (Jt _ _) hn) (Yc _)) (Yn (Yn (Nat.le_add_left _ _) hn) (Yc _)) hA hB uA uB cx cy
 | n+1,A,B,hn,hA,hB,uA,uB,cx,cy=>by
  by_cases a3:A.length<=2
  ·by_cases b3:B.length<=2
   ·exact ygd a3 b3 hA hB uA uB cx cy
   ·refine vj (zqn b3) fun t1 t2 t3 L e=>?_;subst e;refine xB (fewer hB) fun s1 s3 e1 e3 hR f1 f2 f3=>?_;exact (f3 A hA (mink n A (s1::s3::L) (Jx hn) hA hR uA (yfa (q:=fun u=>up (ng u)) uB e1 e3) (by rw [f1];exact cx) (by rw [f2];exact cy)).comm).comm
  ·refine vj (zqn a3) fun t1 t2 t3 L e=>?_;subst e;refine xB (fewer hA) fun s1 s3 e1 e3 hR f1 f2 f3=>?_;exact f3 B hB (mink n (s1::s3::L) B (by simp only [Zk] at hn |-;omega) hR hB (yfa (q:=up) uA e1 e3) uB (by rw [f1];exact cx) (by rw [f2];exact cy))
end Mg
namespace Mg
open DL
variable {P Q:Nat->V} {n m:Nat}
def arF (P:Nat->V) (n:Nat):Nat->Rat
 | 0=>0
 | c+1=>xr (ed P (n-(c+1))) (mn (P n) (P (n-c)))+arF P n c
theorem yev {i:Nat} (h:i<n):arF P n (n-i)=xr (ed P i) (mn (P n) (P (i+1)))+arF P n (n-(i+1)):=by
 obtain⟨c,hc⟩:∃ c,n-i=c+1:=⟨n-i-1,by omega⟩
 rw [hc];show xr (ed P (n-(c+1))) (mn (P n) (P (n-c)))+arF P n c=_;rw [show n-(c+1)=i by omega,show n-c=i+1 by omega,show n-(i+1)=c by omega]
def zcm (e:V):List V->Rat
 | []=>0
 | [_]=>0
 | p::q::r=>xr (mn q p) (mn e q)+zcm e (q::r)
theorem par_of {u v:V} (h:al u v):∃ k:Rat,0<=k/\v=sc k u:=by
 have key:∀ {u v:V},up u->up v->xr u v=0->∃ k:Rat,0<=k/\v=sc k u:=fun {u v} hu hv hx=>by
  have v1:=up_1 hv;rcases hu with a | ⟨a,b⟩
  ·refine⟨v.1/u.1,?_,?_⟩
   ·rw [W0];exact Zo v1 (Z5 (Jp.mpr a))
   ·have i:u.1*u.1⁻¹=1:=U1 _ (by grind);rw [W0];generalize u.1⁻¹=z at *;unfold xr at hx;unfold sc;exact Yv (by dsimp only;grind) (by dsimp only;grind)
  ·have z:v.1=0:=by
    have:v.1*u.2=0:=by unfold xr at hx;grind
    exact (Ub.mp this).resolve_right (by grind)
   have v2:0<v.2:=by rcases hv with h | h <;> grind
   refine⟨v.2/u.2,?_,?_⟩
   ·rw [W0];exact Zo (Z5 v2) (Z5 (Jp.mpr b))
   ·have i:u.2*u.2⁻¹=1:=U1 _ (by grind);rw [W0];generalize u.2⁻¹=z at *;unfold sc;exact Yv (by dsimp only;grind) (by dsimp only;grind)
 refine xg h fun h1 h2=>?_;clear h
 rcases h1 with⟨a,b⟩ | ⟨a,b⟩
 ·exact key a b h2
 ·refine xa (key a b (by rw [zun];exact h2)) fun k k0 e=>?_;refine⟨k,k0,?_⟩
  have e1 : -v.1 = -u.1*k:=congrArg Prod.fst e;have e2 : -v.2 = -u.2*k:=congrArg Prod.snd e;unfold sc;exact Yv (by dsimp only;grind) (by dsimp only;grind)
theorem Poly.srt (h:Poly P n) {i:Nat}:∀ {k:Nat},i<k->k<n->bf (ed P i) (ed P k)
 | 0,a,_=>by omega
 | k+1,a,b=>by
  rcases Yw i k with c | c
  ·exact zhi (h.srt c (by omega)) (h.next b)
  ·have:i=k:=by omega
   subst this;exact h.next b
structure Ws (P Q:Nat->V) (n m:Nat) (s:Nat×Nat) (l:List (Nat×Nat)) (M:List Wt):Prop where
 sx:sx M=mn (P n) (P s.1)
 sy:sy M=mn (Q m) (Q s.2)
 tx:tx M=arF P n (n-s.1)
 ty:ty M=arF Q m (m-s.2)
 tt:Mg.tx M+Mg.ty M+Mg.tb M=zcm (at2 P Q (n,m)) (l.map (at2 P Q))
 x:∀ t∈M,0<=t.x
 y:∀ t∈M,0<=t.y
 o:M.Pairwise fun a b=>bf a.u b.u
 p:∀ t∈M,∀ i,i<s.1->bf (ed P i) t.u
 q:∀ t∈M,∀ j,j<s.2->bf (ed Q j) t.u
 h:∀ t∈M,up t.u\/up (ng t.u)
theorem Ws.step {s t:Nat×Nat} {l:List (Nat×Nat)} {M:List Wt} (W:Ws P Q n m t l M) (T:Tr P Q n m t l) {u:V} {x y:Rat} (hx:0<=x) (hy:0<=y) (hu:up u\/up (ng u)) (e1:mn (P t.1) (P s.1)=sc x u) (e2:mn (Q t.2) (Q s.2)=sc y u)
  (a1:arF P n (n-s.1)=x*xr u (mn (P n) (P t.1))+arF P n (n-t.1)) (a2:arF Q m (m-s.2)=y*xr u (mn (Q m) (Q t.2))+arF Q m (m-t.2)) (l1:s.1<=t.1) (l2:s.2<=t.2) (hd:∀ z∈M,bf u z.u) (p:∀ i,i<s.1->bf (ed P i) u) (q:∀ j,j<s.2->bf (ed Q j) u):Ws P Q n m s (s::l) (⟨u,x,y⟩::M) where
 sx:=by
  show pl (sc x u) (Mg.sx M)=_;rw [W.sx,<- e1];unfold pl mn;exact Yv (by dsimp only;grind) (by dsimp only;grind)
 sy:=by
  show pl (sc y u) (Mg.sy M)=_;rw [W.sy,<- e2];unfold pl mn;exact Yv (by dsimp only;grind) (by dsimp only;grind)
 tx:=by show x*xr u (Mg.sx M)+Mg.tx M=_;rw [W.sx,W.tx,a1]
 ty:=by show y*xr u (Mg.sy M)+Mg.ty M=_;rw [W.sy,W.ty,a2]
 tt:=by
  have key:zcm (at2 P Q (n,m)) ((s::l).map (at2 P Q))=xr (mn (at2 P Q t) (at2 P Q s)) (mn (at2 P Q (n,m)) (at2 P Q t))+zcm (at2 P Q (n,m)) (l.map (at2 P Q)):=by
   cases T with
   | nil=>show (0:Rat)=xr _ (mn _ _)+0;rw [zdp,xr_0];grind
   | cons _ _ _ _ _=>rfl
  rw [key,<- W.tt];have g:mn (at2 P Q t) (at2 P Q s)=pl (sc x u) (sc y u):=by
   rw [<- e1,<- e2];unfold mn at2 pl;exact Yv (by dsimp only;grind) (by dsimp only;grind)
  have f:mn (at2 P Q (n,m)) (at2 P Q t)=pl (Mg.sx M) (Mg.sy M):=by
   rw [W.sx,W.sy];unfold mn at2 pl;exact Yv (by dsimp only;grind) (by dsimp only;grind)
  rw [g,f];show x*xr u (Mg.sx M)+Mg.tx M+(y*xr u (Mg.sy M)+Mg.ty M)+(x*xr u (Mg.sy M)+y*xr u (Mg.sx M)+Mg.tb M)=_;unfold xr pl sc;grind
 x:=fun z hz=>by
  rcases Zf.mp hz with e | hz
  ·rw [e];exact hx
  ·exact W.x z hz
 y:=fun z hz=>by
  rcases Zf.mp hz with e | hz
  ·rw [e];exact hy
  ·exact W.y z hz
 o:=Z9.mpr ⟨hd,W.o⟩
 p:=fun z hz i hi=>by
  rcases Zf.mp hz with e | hz
  ·rw [e];exact p i hi
  ·exact W.p z hz i (by omega)
 q:=fun z hz i hi=>by
  rcases Zf.mp hz with e | hz
  ·rw [e];exact q i hi
  ·exact W.q z hz i (by omega)
 h:=fun z hz=>by
  rcases Zf.mp hz with e | hz
  ·rw [e];exact hu
  ·exact W.h z hz
theorem sc_1 (u:V):u=sc 1 u:=by unfold sc;exact Yv (by dsimp only;grind) (by dsimp only;grind)
theorem sc_0 (a u:V):mn a a=sc 0 u:=by unfold sc mn;exact Yv (by dsimp only;grind) (by dsimp only;grind)
theorem Tr.ws (hP:Poly P n) (hQ:Poly Q m) {s:Nat×Nat} {l:List (Nat×Nat)} (h:Tr P Q n m s l):∃ M,Ws P Q n m s l M:=by
 induction h with
 | nil=>
  refine⟨[],?_,?_,?_,?_,?_,?_,?_,List.Pairwise.nil,?_,?_,?_⟩
  ·rw [zdp];rfl
  ·rw [zdp];rfl
  ·rw [Qu];rfl
  ·rw [Qu];rfl
  ·show (0:Rat)+0+0=0;grind
  all_goals
   intro t ht;cases ht
 | @cons s t l I a b S T ih=>
  refine xb ih fun M W=>?_;clear ih
  have toP:s.1<n->∀ j,j<s.2->bf (ed Q j) (ed P s.1):=fun k j hj=>by
   have:=I.b (by omega) k
   rcases Yw j (s.2-1) with c | c
   ·exact zhi (hQ.srt c (by omega)) this
   ·rw [show j=s.2-1 by omega];exact this
  have toQ:s.2<m->∀ j,j<s.1->bf (ed P j) (ed Q s.2):=fun k j hj=>by
   have:=I.a (by omega) k
   rcases Yw j (s.1-1) with c | c
   ·exact zhi (hP.srt c (by omega)) this
   ·rw [show j=s.1-1 by omega];exact this
  rcases S with⟨e,k,_⟩ | ⟨e,k,_⟩ | ⟨e,k1,k2,x0⟩
  ·subst e;refine⟨_,W.step (u:=ed P s.1) (x:=1) (y:=0) T (by decide) (by decide) (hP.half s.1) (sc_1 _) (sc_0 _ _) ?_ ?_ (Jq _) (Zg _) (fun z hz=>W.p z hz s.1 (Qa _)) (fun i hi=>hP.srt hi k) (toP k)⟩
   ·rw [yev k,Jo]
   ·rw [K8,Ua]
  ·subst e;refine⟨_,W.step (u:=ed Q s.2) (x:=0) (y:=1) T (by decide) (by decide) (hQ.half s.2) (sc_0 _ _) (sc_1 _) ?_ ?_ (Zg _) (Jq _) (fun z hz=>W.q z hz s.2 (Qa _)) (toQ k) (fun i hi=>hQ.srt hi k)⟩
   ·rw [K8,Ua]
   ·rw [yev k,Jo]
  ·subst e;refine xa (par_of (u:=ed P s.1) (v:=ed Q s.2) ((order hP hQ I k1 k2).2.2 x0)) fun y y0 e=>?_;refine⟨_,W.step (u:=ed P s.1) (x:=1) (y:=y) T (by decide) y0 (hP.half s.1) (sc_1 _) e ?_ ?_ (Jq _) (Jq _) (fun z hz=>W.p z hz s.1 (Qa _)) (fun i hi=>hP.srt hi k1) (toP k1)⟩
   ·rw [yev k1,Jo]
   ·rw [yev k2,e];unfold xr sc;grind
end Mg
namespace Mg
open DL
theorem ylr:∀ (A B:List Wt),sx (A++B)=pl (sx A) (sx B)/\sy (A++B)=pl (sy A) (sy B)
 | [],B=>⟨(yip _).symm,(yip _).symm⟩
 | t::A,B=>by
  refine xg (ylr A B) fun a b=>?_;refine⟨?_,?_⟩
  ·show pl (sc t.x t.u) (sx (A++B))=pl (pl (sc t.x t.u) (sx A)) (sx B);rw [a];unfold pl;exact Yv (by dsimp only;grind) (by dsimp only;grind)
  ·show pl (sc t.y t.u) (sy (A++B))=pl (pl (sc t.y t.u) (sy A)) (sy B);rw [b];unfold pl;exact Yv (by dsimp only;grind) (by dsimp only;grind)
theorem zqg (x:Rat) (u v:V):xr (sc x u) v=x*xr u v:=by unfold xr sc;grind
theorem app_t:∀ (A B:List Wt),tx (A++B)=tx A+tx B+xr (sx A) (sx B)/\ty (A++B)=ty A+ty B+xr (sy A) (sy B)/\tb (A++B)=tb A+tb B+(xr (sx A) (sy B)+xr (sy A) (sx B))
 | [],B=>by
  have z:∀ v,xr (0,0) v=0:=fun v=>by unfold xr;grind
  refine⟨?_,?_,?_⟩
  ·show tx B=0+tx B+xr (0,0) (sx B);rw [z];grind
  ·show ty B=0+ty B+xr (0,0) (sy B);rw [z];grind
  ·show tb B=0+tb B+(xr (0,0) (sy B)+xr (0,0) (sx B));rw [z,z];grind
 | t::A,B=>by
  refine xg (ylr A B) fun a b=>?_;refine xi (app_t A B) fun c d e=>?_;refine⟨?_,?_,?_⟩
  ·show t.x*xr t.u (sx (A++B))+tx (A++B)=t.x*xr t.u (sx A)+tx A+tx B+xr (pl (sc t.x t.u) (sx A)) (sx B);rw [a,c,zbe,zji,zqg];grind
  ·show t.y*xr t.u (sy (A++B))+ty (A++B)=t.y*xr t.u (sy A)+ty A+ty B+xr (pl (sc t.y t.u) (sy A)) (sy B);rw [b,d,zbe,zji,zqg];grind
  ·show t.x*xr t.u (sy (A++B))+t.y*xr t.u (sx (A++B))+tb (A++B)=t.x*xr t.u (sy A)+t.y*xr t.u (sx A)+tb A+tb B+(xr (pl (sc t.x t.u) (sx A)) (sy B)+xr (pl (sc t.y t.u) (sy A)) (sx B));rw [a,b,e,zbe,zbe,zji,zji,zqg,zqg];grind
theorem ygb:∀ {M:List Wt},(M.Pairwise fun a b=>bf a.u b.u)->(∀ t∈M,up t.u\/up (ng t.u))->∃ A B,M=A++B/\(∀ t∈A,up t.u)/\∀ t∈B,up (ng t.u)
 | [],_,_=>⟨[],[],rfl,fun t h=>(by cases h),fun t h=>by cases h⟩
 | t::M,o,h=>by
  refine xg (Z9.mp o) fun o1 o2=>?_;refine xc (ygb o2 fun z hz=>h z (.tail _ hz)) fun A B e a b=>?_;rcases h t (.head _) with k | k
  ·refine⟨t::A,B,by rw [e];rfl,fun z hz=>?_,b⟩
   rcases Zf.mp hz with q | hz
   ·rw [q];exact k
   ·exact a z hz
  ·have dn:∀ z∈M,up (ng z.u):=fun z hz=>by
    rcases o1 z hz with⟨x,_⟩ | ⟨x,_,_⟩ | ⟨_,x,_⟩
    ·exact (B4 x k).elim
    ·exact (B4 x k).elim
    ·exact x
   refine⟨[],t::M,rfl,fun z hz=>(by cases hz),fun z hz=>?_⟩
   rcases Zf.mp hz with q | hz
   ·rw [q];exact k
   ·exact dn z hz
theorem zzr {l:List V} {i:Nat} (h:i<l.length):at0 l i=rnd l i:=by unfold rnd;rw [Zt h]
theorem zrj {l:List V}:∀ k,k+1<l.length->fanN l k+zcm (at0 l 0) (l.drop (k+1))=zcm (at0 l 0) l
 | 0,h=>by
  match l,h with
  | p::q::r,_=>
   show (0:Rat)+zcm p (q::r)=xr (mn q p) (mn p q)+zcm p (q::r);unfold xr mn;grind
 | k+1,h=>by
  rw [<- zrj k (by omega)];show fanN l k+oR (at0 l 0) (at0 l (k+1)) (at0 l (k+2))+_=_;have d1:l.drop (k+1)=at0 l (k+1)::at0 l (k+2)::l.drop (k+3):=by
   rw [Yd (show k+1<l.length by omega),Yd (show k+1+1<l.length by omega)];unfold at0;rw [Zm,Zm,Ze (show k+1<l.length by omega),Ze (show k+2<l.length by omega)];rfl
  have d2:l.drop (k+1+1)=at0 l (k+2)::l.drop (k+3):=by
   rw [Yd (show k+1+1<l.length by omega)];unfold at0;rw [Zm,Ze (show k+2<l.length by omega)];rfl
  rw [d1,d2];show _=fanN l k+(xr (mn (at0 l (k+2)) (at0 l (k+1))) (mn (at0 l 0) (at0 l (k+2)))+zcm (at0 l 0) (at0 l (k+2)::l.drop (k+3)));have e:oR (at0 l 0) (at0 l (k+1)) (at0 l (k+2))=xr (mn (at0 l (k+2)) (at0 l (k+1))) (mn (at0 l 0) (at0 l (k+2))):=by unfold oR xr mn;grind
  rw [e];grind
theorem last1 {l:List V} (h:0<l.length):∃ x,l.drop (l.length-1)=[x]:=List.length_eq_one_iff.mp (by rw [Yr];omega)
theorem zfx {l:List V} (h:2<=l.length):sX l l.length=zcm (at0 l 0) l:=by
 rw [shoe h,<- zrj (l.length-2) (by omega)];obtain⟨x,e⟩:=last1 (show 0<l.length by omega)
 rw [show l.length-2+1=l.length-1 by omega,e];show _=_+(0:Rat);grind
theorem yab {l:List V}:∀ c,c<l.length->arF (rnd l) l.length (c+1)=zcm (at0 l 0) (l.drop (l.length-(c+1)))
 | 0,h=>by
  obtain⟨x,e⟩:=last1 (show 0<l.length by omega)
  rw [show l.length-(0+1)=l.length-1 by omega,e];show xr _ (mn (rnd l l.length) (rnd l (l.length-0)))+0=0;rw [Uf,zdp,xr_0];grind
 | c+1,h=>by
  show xr (ed (rnd l) (l.length-(c+1+1))) (mn (rnd l l.length) (rnd l (l.length-(c+1))))+arF (rnd l) l.length (c+1)=_;rw [yab c (by omega)];obtain⟨i,hi⟩:∃ i,l.length-(c+1+1)=i:=⟨_,rfl⟩
  have e2:l.length-(c+1)=i+1:=by omega
  rw [hi,e2];have il:i+1<l.length:=by omega
  have d1:l.drop i=at0 l i::at0 l (i+1)::l.drop (i+2):=by
   rw [Yd (show i<l.length by omega),Yd il];unfold at0;rw [Zm,Zm,Ze (show i<l.length by omega),Ze il];rfl
  have d2:l.drop (i+1)=at0 l (i+1)::l.drop (i+2):=by
   rw [Yd il];unfold at0;rw [Zm,Ze il];rfl
  rw [d1,d2];show xr (mn (rnd l (i+1)) (rnd l i)) (mn (rnd l l.length) (rnd l (i+1)))+_=xr (mn (at0 l (i+1)) (at0 l i)) (mn (at0 l 0) (at0 l (i+1)))+zcm (at0 l 0) (at0 l (i+1)::l.drop (i+2));rw [zzr il,zzr (show i<l.length by omega),zzr (show 0<l.length by omega)];have:rnd l l.length=rnd l 0:=by have:=zfv (l:=l) 0;rw [Y8] at this;exact this
  rw [this]
theorem ar_sX {l:List V} (h:2<=l.length):arF (rnd l) l.length l.length=sX l l.length:=by
 have:=yab (l:=l) (l.length-1) (by omega)
 rw [show l.length-1+1=l.length by omega,Qu,Jc] at this;rw [this,zfx h]
abbrev Ar (l:List V):Rat:=sX l l.length
theorem areas {l r:List V} (hl:IsShp l) (hr:IsShp r):0<=Ar (sumL l r)-(Ar l+Ar r)/\4*(Ar l*Ar r)<=(Ar (sumL l r)-(Ar l+Ar r))*(Ar (sumL l r)-(Ar l+Ar r)):=by
 have l3:=hl.three;have r3:=hr.three;have hP:=zdo hl (nodup hl);have hQ:=zdo hr (nodup hr);have hS:=sumN hl hr;have s3:=hS.three;refine xb ((zkj hP hQ (Zg _)).ws hP hQ) fun M W=>?_;refine xc (ygb W.o W.h) fun A B e a b=>?_;have c1:=W.sx;have c2:=W.sy;have c3:=W.tx;have c4:=W.ty;have c5:=W.tt;dsimp only at c1 c2 c3 c4;rw [Uf,ar_sX (by omega)] at c3 c4;have p0:∀ {z:List V},rnd z z.length=rnd z 0:=fun {z}=>by have:=zfv (l:=z) 0;rw [Y8] at this;exact this
 rw [p0,zdp] at c1 c2;have c6:zcm (at2 (rnd l) (rnd r) (l.length,r.length)) ((walk (rnd l) (rnd r) l.length r.length (l.length+r.length) (0,0)).map (at2 (rnd l) (rnd r)))=Ar (sumL l r):=by
  show zcm _ (sumL l r)=sX (sumL l r) (sumL l r).length;rw [zfx (by omega),zsk hP hQ];congr 1
  have T:=zkj hP hQ (Zg (l.length+r.length));have hd:=T.head (fun z=>by have:=congrArg Prod.fst z;dsimp only at this;omega);have:(sumL l r)[0]? = some (at2 (rnd l) (rnd r) (0,0)):=by
   show ((sumW l r).map _)[0]? = _;rw [Zj];show Option.map _ (walk (rnd l) (rnd r) l.length r.length (l.length+r.length) (0,0))[0]? = _;rw [hd];rfl
  unfold at0;rw [Zm,this];rfl
 rw [c6] at c5;have pos:∀ {C:List Wt},(∀ t∈C,t∈M)->(C.Pairwise fun s t=>0<xr s.u t.u)->Rw C:=fun {C} hC o=>⟨fun t ht=>W.x t (hC t ht),fun t ht=>W.y t (hC t ht),o⟩
 have oo:=W.o;rw [e] at oo;refine xi (Uk.mp oo) fun oA oB _=>?_;have RA:Rw A:=pos (fun t ht=>by rw [e];exact W1 _ ht) (Ks (fun {x y} hx hy h=>by
  rcases h with⟨_,k⟩ | ⟨_,_,k⟩ | ⟨k,_,_⟩
  ·exact (B4 (a y hy) k).elim
  ·exact k
  ·exact (B4 (a x hx) k).elim) oA)
 have RB:Rw B:=pos (fun t ht=>by rw [e];exact Yj _ ht) (Ks (fun {x y} hx hy h=>by
  rcases h with⟨k,_⟩ | ⟨k,_,_⟩ | ⟨_,_,k⟩
  ·exact (B4 k (b x hx)).elim
  ·exact (B4 k (b x hx)).elim
  ·exact k) oB)
 refine xg (ylr A B) fun f1 f2=>?_;refine xi (app_t A B) fun f3 f4 f5=>?_;rw [<- e] at f1 f2 f3 f4 f5;rw [c1] at f1;rw [c2] at f2;have G:=mink (A.length+B.length) A B (Zg _) RA RB a b f1.symm f2.symm;have g1:(sx A).1+(sx B).1=0:=(congrArg Prod.fst f1).symm;have g2:(sx A).2+(sx B).2=0:=(congrArg Prod.snd f1).symm;have g3:(sy A).1+(sy B).1=0:=(congrArg Prod.fst f2).symm;have g4:(sy A).2+(sy B).2=0:=(congrArg Prod.snd f2).symm;have z1:xr (sx A) (sx B)=0:=by unfold xr;grind
 have z2:xr (sy A) (sy B)=0:=by unfold xr;grind
 have z3:xr (sx A) (sy B)+xr (sy A) (sx B)=0:=by unfold xr;grind
 rw [z1] at f3;rw [z2] at f4;rw [z3] at f5;have k1:tx A+tx B=Ar l:=by show _=sX l l.length;rw [<- c3,f3];grind
 have k2:ty A+ty B=Ar r:=by show _=sX r r.length;rw [<- c4,f4];grind
 have k3:tb A+tb B=Ar (sumL l r)-(Ar l+Ar r):=by
  have:tb A+tb B=tb M:=by rw [f5];grind
  rw [this,<- c5];show _=_-(sX l l.length+sX r r.length);rw [<- c3,<- c4];grind
 unfold Gd at G;rw [k1,k2,k3] at G;refine⟨?_,G⟩
 rw [<- k3];have:=RA.pos.2.2
 have:=RB.pos.2.2
 grind
end Mg
namespace Mg
open DL
theorem znp {e:V} {x:Rat}:∀ l:List V,zcm (sc x e) (l.map (sc x))=x*x*zcm e l
 | []=>by show (0:Rat)=x*x*0;grind
 | [_]=>by show (0:Rat)=x*x*0;grind
 | p::q::r=>by
  show xr (mn (sc x q) (sc x p)) (mn (sc x e) (sc x q))+zcm (sc x e) ((q::r).map (sc x))=x*x*(xr (mn q p) (mn e q)+zcm e (q::r));rw [znp (q::r)];unfold xr mn sc;grind
theorem znq {e p0:V}:∀ l:List V,zcm (pl p0 e) (l.map (pl p0))=zcm e l
 | []=>rfl
 | [_]=>rfl
 | p::q::r=>by
  show xr (mn (pl p0 q) (pl p0 p)) (mn (pl p0 e) (pl p0 q))+zcm (pl p0 e) ((q::r).map (pl p0))=xr (mn q p) (mn e q)+zcm e (q::r);rw [znq (q::r)];unfold xr mn pl;grind
theorem zzx {f:V->V} {l:List V} (h:0<l.length):at0 (l.map f) 0=f (at0 l 0):=by
 unfold at0;rw [Zm,Zj,Zm,Ze h];rfl
theorem zzz {l:List V} (h:2<=l.length) (x:Rat):Ar (l.map (sc x))=x*x*Ar l:=by
 show sX (l.map (sc x)) (l.map (sc x)).length=x*x*sX l l.length;rw [zfx (by rw [Zd];exact h),zfx h,zzx (by omega),znp]
theorem yaa {l:List V} (h:2<=l.length) (p:V):Ar (l.map (pl p))=Ar l:=by
 show sX (l.map (pl p)) (l.map (pl p)).length=sX l l.length;rw [zfx (by rw [Zd];exact h),zfx h,zzx (by omega),znq]
theorem zvm {l:List V} {x:Rat} (hx:0<=x) (hl:IsShp l) (h1:IsShp (l.map (sc x))) (h2:IsShp (l.map (sc (1+x)))):sumL l (l.map (sc x))=l.map (sc (1+x)):=zhz (sumN hl h1) h2 fun d=>by
 refine xc (zbc hl h1 d) fun u v a b c=>?_;refine⟨_,_,c,zgb (by grind) a,?_⟩
 rw [zbe,zet,zds b (zgb hx a),zet];grind
theorem IsShp.sized {l:List V} {x:Rat} (hl:IsShp l) (hx:0<x):IsShp (l.map (sc x)):=by
 refine⟨by rw [Zd];exact hl.three,fun k a b ha hb=>?_,fun k a b c ha hb hc na nb=>?_⟩
 ·rw [Zj] at ha hb;refine xa (Zb.mp ha) fun p hp e=>?_;refine xa (Zb.mp hb) fun q hq e2=>?_;have:=hl.first k p q hp hq
  rw [<- e,<- e2];rcases this with h | ⟨h1,h2⟩
  ·refine .inl ?_;show p.1*x<q.1*x;have:=Wa (show 0<q.1-p.1 by grind) hx
   grind
  ·refine .inr ⟨by show p.1*x=q.1*x;rw [h1],?_⟩;show p.2*x<q.2*x;have:=Wa (show 0<q.2-p.2 by grind) hx
   grind
 ·rw [Zd,Zj] at ha;rw [Zj] at hb;refine xa (Zb.mp ha) fun p hp e=>?_;refine xa (Zb.mp hb) fun q hq e2=>?_;refine xa (Z1.mp hc) fun z hz e3=>?_;have:=hl.conv k p q z hp hq hz (fun w=>na (by rw [<- e3,w,e])) fun w=>nb (by rw [<- e3,w,e2])
  rw [<- e,<- e2,<- e3];have f:oR (sc x p) (sc x q) (sc x z)=x*x*oR p q z:=by unfold oR sc;grind
  rw [f];exact Wa (Wa hx hx) this
theorem IsShp.pushed {l:List V} (hl:IsShp l) (p0:V):IsShp (l.map (pl p0)):=by
 refine⟨by rw [Zd];exact hl.three,fun k a b ha hb=>?_,fun k a b c ha hb hc na nb=>?_⟩
 ·rw [Zj] at ha hb;refine xa (Zb.mp ha) fun p hp e=>?_;refine xa (Zb.mp hb) fun q hq e2=>?_;have:=hl.first k p q hp hq
  rw [<- e,<- e2];unfold ltR pl at *;dsimp only;rcases this with h | ⟨h1,h2⟩
  ·exact .inl (by grind)
  ·exact .inr ⟨by grind,by grind⟩
 ·rw [Zd,Zj] at ha;rw [Zj] at hb;refine xa (Zb.mp ha) fun p hp e=>?_;refine xa (Zb.mp hb) fun q hq e2=>?_;refine xa (Z1.mp hc) fun z hz e3=>?_;have:=hl.conv k p q z hp hq hz (fun w=>na (by rw [<- e3,w,e])) fun w=>nb (by rw [<- e3,w,e2])
  rw [<- e,<- e2,<- e3];have f:oR (pl p0 p) (pl p0 q) (pl p0 z)=oR p q z:=by unfold oR pl;grind
  rw [f];exact this
theorem no_gap {l:List V} {x:Rat} {p:V} (hx:0<x) (hl:IsShp l) :
  let r:=(l.map (sc x)).map (pl p)
  (Ar (sumL l r)-(Ar l+Ar r))*(Ar (sumL l r)-(Ar l+Ar r))-4*(Ar l*Ar r)=0:=by
 have h1:=IsShp.sized hl hx;have h2:=IsShp.sized hl (show 0<1+x by grind);have h3:=IsShp.pushed h1 p;have l3:=hl.three;have e:sumL l ((l.map (sc x)).map (pl p))=(l.map (sc (1+x))).map (pl p):=by
  rw [zkr hl h3,zqr h1 hl h3 (IsShp.pushed (sumN h1 hl) p),zkr h1 hl,zvm (Z5 hx) hl h1 h2]
 intro r;show (Ar (sumL l ((l.map (sc x)).map (pl p)))-(Ar l+Ar ((l.map (sc x)).map (pl p))))*(Ar (sumL l ((l.map (sc x)).map (pl p)))-(Ar l+Ar ((l.map (sc x)).map (pl p))))-4*(Ar l*Ar ((l.map (sc x)).map (pl p)))=0;rw [e,yaa (by rw [Zd];omega),yaa (by rw [Zd];omega),zzz (by omega),zzz (by omega)];generalize Ar l=D;grind
end Mg
open Sf
section
variable {Γ:Nat->List D->Option W}
def crI (s t:H3):Int:=s.1*t.2.1-s.2.1*t.1
def zim:List D->Option W:=run (tab []) zje 2
theorem ok_cross:∀ ds w,ds.length=2->zim ds=some w->run Γ zje 2 ds=some w:=fun ds w _ h=>zby [] (fun p hp=>by cases hp) (by decide) ds w h
theorem zyu {s t:H3} (hs:HB 3000 s) (ht:HB 3000 t):zim [hD s,hD t]=some (.val (.int (crI s t))):=by
 have m1:zap s.1 t.2.1=true:=zar hs.a ht.b (by decide) (by decide);have m2:zap s.2.1 t.1=true:=zar hs.b ht.a (by decide) (by decide);unfold zim;generalize tab []=Γ;unfold crI hD zje;clear hs ht;walk_at "evh"
def zjn:List H3->List H3->Int
 | _,[]=>1
 | [],_::_=>-1
 | s::_,t::_=>crI s t
abbrev zpa:List (Nat×(List D->Option W)):=[(81,zim)]
def znw:List D->Option W:=run (tab zpa) zaj 2
theorem ok_next_bend (h81:Γ 81=zim):∀ ds w,ds.length=2->znw ds=some w->run Γ zaj 2 ds=some w:=fun ds w _ h=>zby zpa (by
 intro p hp;rcases Zu.mp hp with rfl;exact h81) (by decide) ds w h
theorem ygo:∀ l:List H3,dOkL 49 (l.map hD)=true
 | []=>rfl
 | p::l=>by
  rw [Zz];unfold dOkL;rw [ygo l];rfl
theorem zgn:∀ l:List H3,lfL (l.map hD)=true
 | []=>rfl
 | p::l=>by rw [Zz];unfold lfL;rw [zgn l];rfl
theorem ziu (l:List H3):cmpD .eq (.lst (l.map hD)) (.lst [])=some (decide (l=[])):=by
 have d:=ygo l;show (if (dOkL 49 (l.map hD) && dOkL 49 [])=true then some (eqL (l.map hD) []) else none)=_;rw [d,if_pos (show (true && dOkL 49 [])=true from rfl)];cases l with
 | nil=>rfl
 | cons x l=>rfl
theorem yef {φ:List D->Option W} (h81:Γ 81=φ) {x y:D} {A B:List D} {c:Int} (a0:L2.atI A 0=some x) (b0:L2.atI B 0=some y) (a:cmpD .eq (.lst A) (.lst [])=some false) (b:cmpD .eq (.lst B) (.lst [])=some false) (la:lfL A=true) (lb:lfL B=true) (h:φ [x,y]=some (.val (.int c))) :
  run Γ zaj 2 [.lst A,.lst B]=some (.val (.int c)):=by
 unfold zaj;walk_at "evh"
theorem zzm {A B:List D} (b:cmpD .eq (.lst B) (.lst [])=some true) (lb:lfL B=true):run Γ zaj 2 [.lst A,.lst B]=some (.val (.int 1)):=by
 unfold zaj;walk_at "evh"
theorem zzl {A B:List D} (a:cmpD .eq (.lst A) (.lst [])=some true) (b:cmpD .eq (.lst B) (.lst [])=some false) (la:lfL A=true) (lb:lfL B=true):run Γ zaj 2 [.lst A,.lst B]=some (.val (.int (-1))):=by
 unfold zaj;walk_at "evh"
theorem zzs {l:List D} {k:Nat} {x:D} (h:l[k]? = some x):L2.atI l (k:Int)=some x:=by
 have hk:k<l.length:=by
  rcases Yw k l.length with q | q
  ·exact q
  ·rw [Yz q] at h;cases h
 rw [zgj (Kg k) (by omega),Kk,h]
theorem at_hd (x:H3) (l:List H3):L2.atI ((x::l).map hD) 0=some (hD x):=zzs (k:=0) rfl
theorem yeg {A B:List H3} (hA:∀ s∈A,HB 3000 s) (hB:∀ s∈B,HB 3000 s):znw [.lst (A.map hD),.lst (B.map hD)]=some (.val (.int (zjn A B))):=by
 unfold znw;generalize hΓ:tab zpa=Γ;have h81:Γ 81=zim:=by rw [<- hΓ];rfl
 cases B with
 | nil=>
  have:=zzm (Γ:=Γ) (A:=A.map hD) (ziu []) (zgn [])
  cases A <;> exact this
 | cons t B=>
  cases A with
  | nil=>exact zzl (ziu []) (ziu (t::B)) (zgn []) (zgn (t::B))
  | cons s A=>exact yef h81 (x:=hD s) (y:=hD t) (at_hd _ _) (at_hd _ _) (ziu (s::A)) (ziu (t::B)) (zgn (s::A)) (zgn (t::B)) (zyu (hA s (.head _)) (hB t (.head _)))
abbrev zit:E:=(.or (.cmp .lt (.var 5) (.bi .len (.cons (.var 0) .nil))) (.cmp .lt (.var 6) (.bi .len (.cons (.var 1) .nil))))
abbrev zgf:Ss:=(.cons (.app 4 (.call 67 (.cons (.ix (.var 0) (.bin .mod (.var 5) (.bi .len (.cons (.var 0) .nil)))) (.cons (.ix (.var 1) (.bin .mod (.var 6) (.bi .len (.cons (.var 1) .nil)))) .nil)))) (.cons (.asg 7 (.call 83 (.cons (.sl (.var 2) (.som (.var 5)) .non) (.cons (.sl (.var 3) (.som (.var 6)) .non) .nil)))) (.cons (.iff (.cmp .ge (.var 7) (.int 0)) (.cons (.asg 5 (.bin .add (.var 5) (.int 1))) .nil) .nil) (.cons (.iff (.cmp .le (.var 7) (.int 0)) (.cons (.asg 6 (.bin .add (.var 6) (.int 1))) .nil) .nil) .nil))))
theorem zlx {L1 L2' S1 S2 C:List D} {i j n m:Int} {c:Option B} {r:Bool} (hn:(L1.length:Int)=n) (hm:(L2'.length:Int)=m) (hr:decide (i<n\/j<m)=r) :
  evB Γ zit [some (.sh (.lst L1)),some (.sh (.lst L2')),some (.ow S1),some (.ow S2),some (.ow C),some (.sh (.int i)),some (.sh (.int j)),c]=some r:=by
 subst hr;by_cases h1:i<n
 ·rw [decide_eq_true (.inl h1)];have h1':(i<n)=True:=eq_true h1;walk_at "evh"
 ·have h1':(i<n)=False:=eq_false h1;by_cases h2:j<m
  ·have h2':(j<m)=True:=eq_true h2;rw [decide_eq_true (.inr h2)];walk_at "evh"
  ·have h2':(j<m)=False:=eq_false h2;rw [decide_eq_false (fun z=>z.elim h1 h2)];walk_at "evh"
theorem ybh {φ ψ:List D->Option W} (h67:Γ 67=φ) (h83:Γ 83=ψ) {L1 L2' S1 S2 C A B':List D} {i j n m b:Int} {x y z:D} {c:Option B} (hn:(L1.length:Int)=n) (hm:(L2'.length:Int)=m) (n0:0<n) (m0:0<m) (nz:(n=0)=False) (mz:(m=0)=False) (dn:zdj n=true) (dm:zdj m=true)
  (a1:L2.atI L1 (i%n)=some x) (a2:L2.atI L2' (j%m)=some y) (f:φ [x,y]=some (.val z)) (lz:lf z=true) (cz:(C.length<PySem.sizeLine)=True) (c1:cutD S1 (some i) none=A) (c2:cutD S2 (some j) none=B') (g:ψ [.lst A,.lst B']=some (.val (.int b))) :
  exs Γ zgf [some (.sh (.lst L1)),some (.sh (.lst L2')),some (.ow S1),some (.ow S2),some (.ow C),some (.sh (.int i)),some (.sh (.int j)),c]
   = some (.nx [some (.sh (.lst L1)),some (.sh (.lst L2')),some (.ow S1),some (.ow S2),some (.ow (C++[z])),some (.sh (.int (if 0<=b then i+1 else i))),some (.sh (.int (if b<=0 then j+1 else j))),some (.sh (.int b))]):=by
 unfold zgf;by_cases h1:0<=b <;> by_cases h2:b<=0
 ·rw [if_pos h1,if_pos h2];have h1':(0<=b)=True:=eq_true h1;have h2':(b<=0)=True:=eq_true h2;walk_at "evh"
 ·rw [if_pos h1,if_neg h2];have h1':(0<=b)=True:=eq_true h1;have h2':(b<=0)=False:=eq_false h2;walk_at "evh"
 ·rw [if_neg h1,if_pos h2];have h1':(0<=b)=False:=eq_false h1;have h2':(b<=0)=True:=eq_true h2;walk_at "evh"
 ·omega
end
open Sf Mg
section
variable {Γ:Nat->List D->Option W}
theorem ykp {s e s' e':Rat×Rat} (h:s≠e) (h':s'≠e'):∃ k:Rat,0<k/\(crI (zev s e) (zev s' e'):Rat)=k*xr (mn e s) (mn e' s'):=by
 obtain⟨_,k,kp,e1,e2,_⟩:=zxp (c:=(s.2-e.2)*s.1+(e.1-s.1)*s.2) (zlh h)
 obtain⟨_,k',kp',f1,f2,_⟩:=zxp (c:=(s'.2-e'.2)*s'.1+(e'.1-s'.1)*s'.2) (zlh h')
 refine⟨k*k',Wa kp kp',?_⟩
 unfold crI zev xr mn;rw [Uc,Wi,Wi,e1,e2,f1,f2];grind
theorem yhs {c:Int} {k x:Rat} (hk:0<k) (e:(c:Rat)=k*x):(0<=c↔0<=x)/\(c<=0↔x<=0):=by
 have z:((0:Int):Rat)=0:=rfl;constructor
 ·rw [<- Gf,z,e];constructor
  ·intro h;exact nn_of_mul hk (by rw [Rat.mul_comm];exact h)
  ·intro h;exact Zo (Z5 hk) h
 ·rw [<- Gf,z,e];constructor
  ·intro h;have:=nn_of_mul (a:=-x) hk (by grind)
   grind
  ·intro h;have:=Zo (Z5 hk) (show 0 <= -x by grind)
   grind
theorem zvt {l:List (Rat×Rat)} {i:Nat} (hi:i<l.length):(zab l).drop i=zev (rnd l i) (rnd l (i+1))::(zab l).drop (i+1):=by
 have hl:i<(zab l).length:=by unfold zab;rw [Zd,zbg];exact hi
 rw [Yd hl];congr 1
 have hp:i<(pairsOf l).length:=by rw [zbg];exact hi
 have g:=zii (l:=l) (k:=i) (Ze hp);have a:=zae (l:=l) (by omega) i;have b:=zae (l:=l) (by omega) (i+1);rw [Zt hi] at a;rw [a] at g;rw [b] at g;have g1:=Ye g.1;have g2:=Ye g.2;show (List.map (fun p=>zev p.1 p.2) (pairsOf l))[i]'(by rw [Zd];exact hp)=_;rw [List.getElem_map,<- g1,<- g2]
theorem zqw {l:List (Rat×Rat)} {i:Nat} (hi:¬ i<l.length):(zab l).drop i=[]:=by
 refine List.drop_eq_nil_of_le ?_;unfold zab;rw [Zd,zbg];omega
theorem yfg {l:List (Rat×Rat)} (nd:l.Nodup) (h2:2<=l.length) (i:Nat):rnd l i≠rnd l (i+1):=fun e=>by
 have:=zkx nd (by omega) e.symm
 have a:=Qj i (show 0<l.length by omega);rw [<- Kf] at this;rcases Yw (i%l.length+1) l.length with k | k
 ·rw [Zt k] at this;omega
 ·rw [show i%l.length+1=l.length by omega,Km] at this;omega
theorem bend1 (l:List H3):zjn l []=1:=by cases l <;> rfl
theorem bend2 (x:H3) (l:List H3):zjn [] (x::l) = -1:=rfl
theorem zzk {l r:List (Rat×Rat)} (nl:l.Nodup) (nr:r.Nodup) (l2:2<=l.length) (r2:2<=r.length) (i j:Nat) :
  (0<=zjn ((zab l).drop i) ((zab r).drop j)↔0<=bend (rnd l) (rnd r) l.length r.length i j)/\(zjn ((zab l).drop i) ((zab r).drop j)<=0↔bend (rnd l) (rnd r) l.length r.length i j<=0):=by
 unfold bend;by_cases hj:j<r.length
 ·rw [if_pos hj,zvt hj];by_cases hi:i<l.length
  ·rw [if_pos hi,zvt hi];refine xa (ykp (yfg nl l2 i) (yfg nr r2 j)) fun k kp e=>?_;exact yhs kp e
  ·rw [if_neg hi,zqw hi,bend2];exact⟨⟨fun h=>absurd h (by decide),fun h=>absurd h (by decide)⟩,⟨fun _=>by decide,fun _=>by decide⟩⟩
 ·rw [if_neg hj,zqw hj,bend1];exact⟨⟨fun _=>by decide,fun _=>by decide⟩,⟨fun h=>absurd h (by decide),fun h=>absurd h (by decide)⟩⟩
theorem zrz {l:List (Rat×Rat)} (nd:l.Nodup) (h2:2<=l.length) (hz:SzL 165 l):∀ s∈zab l,HB 3000 s:=fun s hs=>by
 refine xa (Z1.mp hs) fun p hp e=>?_;refine xi (zwz nd h2 hp) fun a b c=>?_;rw [<- e];exact yht (hz _ b).1 (hz _ b).2 (hz _ c).1 (hz _ c).2 a
theorem zqs (h67:Γ 67=zdr) (h83:Γ 83=znw) {l r:List (Rat×Rat)} (nl:l.Nodup) (nr:r.Nodup) (l2:2<=l.length) (r2:2<=r.length) (zl:SzL 165 l) (zr:SzL 165 r) (ll:l.length<=400) (rl:r.length<=400) :
  ∀ (k i j:Nat) (C:List D) (c:Option B),i<=l.length->j<=r.length->l.length+r.length<=k+i+j->C.length+k<=1000 ->
  ∃ (i' j':Int) (c':Option B),zag (evB Γ zit) (exs Γ zgf) (k+1) [some (.sh (.lst (l.map stD))),some (.sh (.lst (r.map stD))),some (.ow ((zab l).map hD)),some (.ow ((zab r).map hD)),some (.ow C),some (.sh (.int (i:Int))),some (.sh (.int (j:Int))),c]
   = some (.nx [some (.sh (.lst (l.map stD))),some (.sh (.lst (r.map stD))),some (.ow ((zab l).map hD)),some (.ow ((zab r).map hD)),some (.ow (C++(walk (rnd l) (rnd r) l.length r.length k (i,j)).map fun s=>stD (at2 (rnd l) (rnd r) s))),some (.sh (.int i')),some (.sh (.int j')),c'])
 | 0,i,j,C,c,hi,hj,hk,hC=>by
  refine⟨i,j,c,?_⟩
  unfold zag;rw [zlx (n:=(l.length:Int)) (m:=(r.length:Int)) (r:=false) (by rw [Zd]) (by rw [Zd]) (decide_eq_false (by omega))];unfold walk;rw [W3,W5]
 | k+1,i,j,C,c,hi,hj,hk,hC=>by
  unfold zag;by_cases cd:i<l.length\/j<r.length
  ·rw [zlx (n:=(l.length:Int)) (m:=(r.length:Int)) (r:=true) (by rw [Zd]) (by rw [Zd]) (decide_eq_true (by omega))];have l0:0<l.length:=by omega
   have r0:0<r.length:=by omega
   have g1:=zae l0 i;have g2:=zae r0 j;have a1:L2.atI (l.map stD) ((i:Int)%(l.length:Int))=some (stD (rnd l i)):=by
    rw [<- Int.natCast_emod];exact zzs (by rw [Zj,g1];rfl)
   have a2:L2.atI (r.map stD) ((j:Int)%(r.length:Int))=some (stD (rnd r j)):=by
    rw [<- Int.natCast_emod];exact zzs (by rw [Zj,g2];rfl)
   have ml:=zl _ (zay l0 i);have mr:=zr _ (zay r0 j);have f:=zot ml ⟨mr.1.mono (by decide),mr.2.mono (by decide)⟩;have hs1:=zrz nl l2 zl;have hs2:=zrz nr r2 zr;have g:=yeg (A:=(zab l).drop i) (B:=(zab r).drop j) (fun s hs=>hs1 s (Ul hs)) (fun s hs=>hs2 s (Ul hs));have sl1:(zab l).length=l.length:=by unfold zab;rw [Zd,zbg]
   have sl2:(zab r).length=r.length:=by unfold zab;rw [Zd,zbg]
   have st:=ybh h67 h83 (c:=c) (C:=C) (n:=(l.length:Int)) (m:=(r.length:Int)) (by rw [Zd]) (by rw [Zd]) (by omega) (by omega) (eq_false (by omega)) (eq_false (by omega)) (zer (by omega) (by omega)) (zer (by omega) (by omega)) a1 a2 f rfl (eq_true (by rw [Y7];omega))
    (zpx (l:=(zab l).map hD) (by rw [Zd,sl1];exact hi)) (zpx (l:=(zab r).map hD) (by rw [Zd,sl2];exact hj)) (by rw [<- Uz,<- Uz];exact g)
   refine xg (zzk nl nr l2 r2 i j) fun b1 b2=>?_;have e1:(if 0<=zjn ((zab l).drop i) ((zab r).drop j) then (i:Int)+1 else (i:Int))=((nxt (rnd l) (rnd r) l.length r.length (i,j)).1:Int):=by
    unfold nxt;dsimp only;by_cases q:0<=zjn ((zab l).drop i) ((zab r).drop j)
    ·rw [if_pos q,if_pos (b1.mp q)];rfl
    ·rw [if_neg q,if_neg fun z=>q (b1.mpr z)]
   have e2:(if zjn ((zab l).drop i) ((zab r).drop j)<=0 then (j:Int)+1 else (j:Int))=((nxt (rnd l) (rnd r) l.length r.length (i,j)).2:Int):=by
    unfold nxt;dsimp only;by_cases q:zjn ((zab l).drop i) ((zab r).drop j)<=0
    ·rw [if_pos q,if_pos (b2.mp q)];rfl
    ·rw [if_neg q,if_neg fun z=>q (b2.mpr z)]
   rw [e1,e2] at st;have S:=zwt (P:=rnd l) (Q:=rnd r) (s:=(i,j)) hi hj cd;have bb:(nxt (rnd l) (rnd r) l.length r.length (i,j)).1<=l.length/\(nxt (rnd l) (rnd r) l.length r.length (i,j)).2<=r.length/\i+j+1<=(nxt (rnd l) (rnd r) l.length r.length (i,j)).1+(nxt (rnd l) (rnd r) l.length r.length (i,j)).2:=by
    rcases S with⟨e,a,_⟩ | ⟨e,a,_⟩ | ⟨e,a,a',_⟩ <;> rw [e] <;> dsimp only at * <;> omega
   refine xq (zqs h67 h83 nl nr l2 r2 zl zr ll rl k _ _ (C++[stD (pshR (rnd r j) (rnd l i))]) (some (.sh (.int (zjn ((zab l).drop i) ((zab r).drop j))))) bb.1 bb.2.1 (by omega) (by rw [Zs,Zk,Ym];omega)) fun i' j' c' ih=>?_;refine⟨i',j',c',?_⟩
   simp only [st];rw [ih];conv=>rhs;unfold walk
   rw [if_pos cd,Zz,Wm];rfl
  ·rw [zlx (n:=(l.length:Int)) (m:=(r.length:Int)) (r:=false) (by rw [Zd]) (by rw [Zd]) (decide_eq_false (by omega))];refine⟨i,j,c,?_⟩
   unfold walk;rw [if_neg cd,W3,W5]
abbrev zhx:List (Nat×(List D->Option W)):=[(40,zil),(67,zdr),(83,znw)]
def zbz:List D->Option W:=run (tab zhx) zfo 8
theorem ok_summed (h40:Γ 40=zil) (h67:Γ 67=zdr) (h83:Γ 83=znw):∀ ds w,ds.length=2->zbz ds=some w->run Γ zfo 8 ds=some w:=fun ds w _ h=>zby zhx (by
 intro p hp;rcases Zf.mp hp with rfl | hp;exact h40
 rcases Zf.mp hp with rfl | hp;exact h67
 rcases Zu.mp hp with rfl;exact h83) (by decide) ds w h
theorem ztg {σ:List D->Option W} (h40:Γ 40=σ) {L1 L2' S1 S2 O:List D} {i j:Int} {c:Option B} (s1:σ [.lst L1]=some (.new S1)) (s2:σ [.lst L2']=some (.new S2)) (f1:lfL S1=true) (f2:lfL S2=true)
  (w:zho (evB Γ zit) (exs Γ zgf) [some (.sh (.lst L1)),some (.sh (.lst L2')),some (.ow S1),some (.ow S2),some (.ow []),some (.sh (.int 0)),some (.sh (.int 0)),none]=some (.nx [some (.sh (.lst L1)),some (.sh (.lst L2')),some (.ow S1),some (.ow S2),some (.ow O),some (.sh (.int i)),some (.sh (.int j)),c])) :
  run Γ zfo 8 [.lst L1,.lst L2']=some (.new O):=by
 show run Γ (.cons (.asg 2 (.call 40 (.cons (.var 0) .nil))) (.cons (.asg 3 (.call 40 (.cons (.var 1) .nil))) (.cons (.asg 4 (.lst .nil)) (.cons (.asg 5 (.int 0)) (.cons (.asg 6 (.int 0)) (.cons (.whl zit zgf) (.cons (.retV 4) .nil))))))) 8 _=_;generalize zit=cd at *;generalize zgf=bd at *;walk_at "evh"
theorem zjv {l r:List (Rat×Rat)} (nl:l.Nodup) (nr:r.Nodup) (l2:2<=l.length) (r2:2<=r.length) (zl:SzL 165 l) (zr:SzL 165 r) (ll:l.length<=400) (rl:r.length<=400):zbz [.lst (l.map stD),.lst (r.map stD)]=some (.new ((sumL l r).map stD)):=by
 unfold zbz;generalize hΓ:tab zhx=Γ;have h40:Γ 40=zil:=by rw [<- hΓ];rfl
 have h67:Γ 67=zdr:=by rw [<- hΓ];rfl
 have h83:Γ 83=znw:=by rw [<- hΓ];rfl
 refine xq (zqs h67 h83 nl nr l2 r2 zl zr ll rl (l.length+r.length) 0 0 [] none (Yc _) (Yc _) (by omega) (by rw [Ym];omega)) fun i' j' c' w=>?_;have:=ztg h40 (znc nl l2 (by omega) zl) (znc nr r2 (by omega) zr) (zgn _) (zgn _) (zdl w)
 rw [this];show _=some (W.new (((Mg.sumW l r).map (at2 (rnd l) (rnd r))).map stD));rw [Wv,Wo];rfl
end
open Sf Mg
structure Ov (d:Int) (B:Nat) (q:Rat×Rat):Prop where
 ex:∃ x y:Int,q.1=Rat.divInt x d/\q.2=Rat.divInt y d/\x.natAbs<2^B/\y.natAbs<2^B
theorem zyp {a b c d:Int} (hb:b≠0) (hd:d≠0):Rat.divInt a b+Rat.divInt c d=Rat.divInt (a*d+c*b) (b*d):=Kl _ _ hb hd
theorem zcb {a b:Int} {m n k:Nat} (h:a.natAbs<2^m) (g:b.natAbs<2^n) (hk:m+n<=k):(a*b).natAbs<2^k:=by
 rw [Wj];exact Zl (zcz h g) (zaq hk)
theorem yfj {a b:Int} {k:Nat} (h:a.natAbs<2^k) (g:b.natAbs<2^k):(a+b).natAbs<2^(k+1):=Wb (Jk a b) (by rw [Ja,G4];exact V2 h g)
theorem pw_sub {a b:Int} {k:Nat} (h:a.natAbs<2^k) (g:b.natAbs<2^k):(a-b).natAbs<2^(k+1):=Wb (Int.natAbs_sub_le a b) (by rw [Ja,G4];exact V2 h g)
theorem Ov.pl {d e:Int} {B C m n k:Nat} {u v:Rat×Rat} (hu:Ov d B u) (hv:Ov e C v) (hd:d≠0) (he:e≠0) (bd:d.natAbs<2^m) (be:e.natAbs<2^n) (h1:B+n<=k) (h2:C+m<=k):Ov (d*e) (k+1) (pl u v):=by
 refine xo hu.ex fun x y e1 e2 b1 b2=>?_;refine xo hv.ex fun z w e3 e4 b3 b4=>?_;refine⟨x*e+z*d,y*e+w*d,?_,?_,yfj (zcb b1 be h1) (zcb b3 bd h2),yfj (zcb b2 be h1) (zcb b4 bd h2)⟩
 ·show u.1+v.1=_;rw [e1,e3,zyp hd he]
 ·show u.2+v.2=_;rw [e2,e4,zyp hd he]
theorem zqy (x:Rat):x=Rat.divInt x.num (x.den:Int):=(Yx x).symm
theorem zoe (x:Rat):(x.den:Int)≠0:=by have:=x.den_nz;omega
theorem Ov.sc {d:Int} {B a b k:Nat} {q:Rat×Rat} {x:Rat} (hq:Ov d B q) (hx:Sy a b x) (h:B+a<=k):Ov (d*(x.den:Int)) k (sc x q):=by
 refine xo hq.ex fun z w e1 e2 b1 b2=>?_;refine⟨z*x.num,w*x.num,?_,?_,zcb b1 hx.t h,zcb b2 hx.t h⟩
 ·show q.1*x=_;rw [e1];conv=>lhs;rw [zqy x];rw [Qt]
 ·show q.2*x=_;rw [e2];conv=>lhs;rw [zqy x];rw [Qt]
theorem Ov.pt {a b k:Nat} {p:Rat×Rat} (h1:Sy a b p.1) (h2:Sy a b p.2) (hk:a+b<=k):Ov ((p.1.den:Int)*(p.2.den:Int)) k p:=by
 have n1:=zoe p.1;have n2:=zoe p.2;have c1:((p.1.den:Nat):Int).natAbs<2^b:=h1.b;have c2:((p.2.den:Nat):Int).natAbs<2^b:=h2.b;refine⟨p.1.num*(p.2.den:Int),p.2.num*(p.1.den:Int),?_,?_,zcb h1.t c2 hk,zcb h2.t c1 hk⟩
 ·conv=>lhs;rw [zqy p.1]
  rw [Gy n2]
 ·conv=>lhs;rw [zqy p.2]
  rw [Qv (p.1.den:Int),Gy n1]
theorem Ov.xr {d:Int} {B:Nat} {p q:Rat×Rat} (hp:Ov d B p) (hq:Ov d B q):∃ c:Int,Xr p q=Rat.divInt c (d*d)/\c.natAbs<=2^(B+B+1):=by
 refine xo hp.ex fun x y e1 e2 b1 b2=>?_;refine xo hq.ex fun u v e3 e4 b3 b4=>?_;refine⟨x*v-u*y,?_,Q8 (pw_sub (zcb b1 b4 (Zg _)) (zcb b3 b2 (Zg _)))⟩
 unfold Xr;rw [e1,e2,e3,e4,Qt,Qt];rw [Wp,Wp,Wp,W0,W0,W0,Uc];grind
theorem zqc {l:List (Rat×Rat)} {i:Nat} (h:i<l.length):at0 l i∈l:=by
 unfold at0;rw [Zm,Ze h];exact Js h
theorem ov_sX {d:Int} {B:Nat} {l:List (Rat×Rat)} (h:∀ q∈l,Ov d B q):∀ k,k<=l.length->∃ c:Int,sX l k=Rat.divInt c (d*d)/\c.natAbs<=k*2^(B+B+1)
 | 0,_=>⟨0,by rw [Rat.zero_divInt];rfl,by simp⟩
 | k+1,hk=>by
  refine xa (ov_sX h k (by omega)) fun c e b=>?_;obtain⟨c2,e2,b2⟩:=(h _ (zqc (show k<l.length by omega))).xr (h _ (zqc (show (k+1)%l.length<l.length from Qj _ (by omega))))
  refine⟨c+c2,?_,Yn (Jk c c2) (by rw [Nat.add_mul,Nat.one_mul];exact Nat.add_le_add b b2)⟩
  show sX l k+Xr (at0 l k) (at0 l ((k+1)%l.length))=_;rw [e,e2,Wp,Wp,Wp,W0,W0,W0,Rat.intCast_add];grind
theorem zwr {d:Int} {B m n:Nat} {l:List (Rat×Rat)} (h:∀ q∈l,Ov d B q) (hd:d≠0) (bd:d.natAbs<2^m) (hl:l.length<=400) (h1:B+B+10<=n) (h2:m+m<=n):∀ k,k<=l.length->Sz n (sX l k):=fun k hk=>by
 refine xa (ov_sX h k hk) fun c e b=>?_;rw [e];refine sz_low (Yb hd hd) (Wb b ?_) (zcb bd bd h2);refine Zl (Wb (Nat.mul_le_mul_right _ (show k<=400 by omega)) (Nat.mul_lt_mul_of_pos_right (show 400<2^9 by decide) (Vt _))) ?_;rw [<- Nat.pow_add];exact zaq (by omega)
def SyL (a b:Nat) (l:List (Rat×Rat)):Prop:=∀ q∈l,Sy a b q.1/\Sy a b q.2
theorem SyL.sz {a b n:Nat} {l:List (Rat×Rat)} (h:SyL a b l) (ha:a<=n) (hb:b<=n):SzL n l:=fun q hq=>⟨(h q hq).1.sz ha hb,(h q hq).2.sz ha hb⟩
theorem SyL.sum {a b c d k:Nat} {l r:List (Rat×Rat)} (hl:SyL a b l) (hr:SyL c d r) (l0:0<l.length) (r0:0<r.length) (h1:a+d<=k) (h2:c+b<=k):SyL (k+1) (b+d) (sumL l r):=fun q hq=>by
 refine vc (zpb l0 r0 hq) fun u hu v hv e=>?_;rw [e];exact⟨(hl u hu).1.add (hr v hv).1 h1 h2,(hl u hu).2.add (hr v hv).2 h1 h2⟩
theorem SyL.push {a b c d k:Nat} {l:List (Rat×Rat)} {p:Rat×Rat} (hl:SyL a b l) (hp:Sy c d p.1/\Sy c d p.2) (h1:a+d<=k) (h2:c+b<=k):SyL (k+1) (b+d) (l.map (pshR p)):=fun q hq=>by
 refine xa (Z1.mp hq) fun u hu e=>?_;rw [<- e];exact⟨(hl u hu).1.add hp.1 h1 h2,(hl u hu).2.add hp.2 h1 h2⟩
theorem SyL.size {a b c d:Nat} {l:List (Rat×Rat)} {x:Rat} (hl:SyL a b l) (hx:Sy c d x):SyL (a+c) (b+d) (l.map (sc x)):=fun q hq=>by
 refine xa (Z1.mp hq) fun u hu e=>?_;rw [<- e];exact⟨(hl u hu).1.mul hx,(hl u hu).2.mul hx⟩
theorem SyL.turn {a b k:Nat} {l:List (Rat×Rat)} (hl:SyL a b l):SyL a b (rot (l.map ngR) k):=fun q hq=>by
 refine xa (Z1.mp (rot_mem.mp hq)) fun u hu e=>?_;rw [<- e];exact⟨(hl u hu).1.neg,(hl u hu).2.neg⟩
theorem ShapeBy.ov {m:Nat} {l:List (Rat×Rat)} {ps:List (Int×Int)} {b f s:Int} (h:ShapeBy m l ps b f s):(∀ q∈l,Ov s 62 q)/\s≠0/\s.natAbs<2^30/\SyL 62 30 l:=by
 refine xu (And.intro h.b0 (And.intro h.b1 (And.intro h.f0 (And.intro h.f1 (And.intro h.s0 h.s1))))) fun b0 b1 f0 f1 s0 s1=>?_;have e62:(2:Nat)^62=4611686018427387904:=by decide
 have sb:s.natAbs<2^30:=d30 (by omega) s1;have key:∀ q∈l,∃ x y:Int,q.1=Rat.divInt x s/\q.2=Rat.divInt y s/\x.natAbs<2^62/\y.natAbs<2^62:=fun q hq=>by
  rw [h.eq] at hq;refine xa (Z1.mp hq) fun p hp e=>?_;subst e;have hR:Bd 2000 p:=h.pts.bd p (sortP_mem.mp (zqx p hp));have key:∀ x:Int,-2000<=x->x<=2000 -> -2000000000000<=x*b/\x*b<=2000000000000:=fun x h1 h2=>by
   have a1:=Vg h2 (show 0<=b by omega);have a2:=Vg h1 (show 0<=b by omega);have a3:(2000:Int)*b<=2000000000000:=by omega
   have a4 : -2000000000000<=(-2000:Int)*b:=by omega
   omega
  have k1:=key p.1 hR.a hR.b;have k2:=key p.2 hR.c hR.d;exact⟨p.1*b+f,p.2*b-2*f,rfl,rfl,by rw [e62];omega,by rw [e62];omega⟩
 refine⟨fun q hq=>⟨key q hq⟩,by omega,sb,fun q hq=>?_⟩
 refine xo (key q hq) fun x y e1 e2 b1' b2'=>?_;exact⟨by rw [e1];exact zms (by omega) b1' sb,by rw [e2];exact zms (by omega) b2' sb⟩
theorem znj (p:Rat×Rat):pshR p=pl p:=by
 funext q
 unfold pshR pl;exact Yv (Ud _ _) (Ud _ _)
open Sf Mg
section
variable {Γ:Nat->List D->Option W}
abbrev zqp:List (Nat×(List D->Option W)):=[(10,zci),(58,zcp),(82,zbz),(9,zbv),(11,zam)]
def mGap:List D->Option W:=run (tab zqp) zdd 3
theorem ok_law_gap (h10:Γ 10=zci) (h58:Γ 58=zcp) (h82:Γ 82=zbz) (h9:Γ 9=zbv) (h11:Γ 11=zam):∀ ds w,ds.length=2->mGap ds=some w->run Γ zdd 3 ds=some w:=fun ds w _ h=>zby zqp (by
 intro p hp;simp only [zqp,Zf,Wd,or_false] at hp;rcases hp with rfl | rfl | rfl | rfl | rfl <;> assumption) (by decide) ds w h
theorem yjy {Mi Db Su Pl Ti:List D->Option W} (h10:Γ 10=Mi) (h58:Γ 58=Db) (h82:Γ 82=Su) (h9:Γ 9=Pl) (h11:Γ 11=Ti) {L R F:List D} {a b c d e f g h k:D} (su:Su [.lst L,.lst R]=some (.new F)) (d1:Db [.lst F]=some (.val a)) (d2:Db [.lst L]=some (.val b)) (d3:Db [.lst R]=some (.val c)) (p:Pl [b,c]=some (.val d)) (m:Mi [a,d]=some (.val e))
  (t1:Ti [e,e]=some (.val f)) (t2:Ti [b,c]=some (.val g)) (t3:Ti [.tup [.int 4,.int 1],g]=some (.val h)) (m2:Mi [f,h]=some (.val k)) (le:lf e=true):run Γ zdd 3 [.lst L,.lst R]=some (.val k):=by
 unfold zdd;walk_at "evh"
def gapR (l r:List (Rat×Rat)):Rat:=(Ar (sumL l r)-(Ar l+Ar r))*(Ar (sumL l r)-(Ar l+Ar r))-4*(Ar l*Ar r)
structure Kn (l:List (Rat×Rat)):Prop where
 sh:IsShp l
 zl:SzL 165 l
 ln:l.length<=100
 ar:∀ k,k<=l.length->Sz 410 (sX l k)
theorem zpv {l:List (Rat×Rat)} (ln:l.length<=200) (l1:1<=l.length) (zl:SzL 300 l) (ar:∀ k,k<=l.length->Sz 410 (sX l k)):zcp [.lst (l.map stD)]=some (.val (fr (Ar l))):=
 zps (fun i hi=>(ar i hi).mono (by decide)) (fun i hi=>zl _ (zqc hi)) l1 ln
theorem zyf {l r:List (Rat×Rat)} (hl:Kn l) (hr:Kn r) (zs:SzL 300 (sumL l r)) (as:∀ k,k<=(sumL l r).length->Sz 410 (sX (sumL l r) k)):mGap [.lst (l.map stD),.lst (r.map stD)]=some (.val (fr (gapR l r)))/\Sz 3300 (gapR l r):=by
 have l3:=hl.sh.three;have r3:=hr.sh.three;have s3:=(sumN hl.sh hr.sh).three;have sl:=zft l r;have ll:=hl.ln;have rl:=hr.ln;have za:=hl.ar l.length (Zg _);have zb:=hr.ar r.length (Zg _);have zc:=as _ (Zg _);have zd:=za.add zb;have ze:=zc.sub zd;have zf:=ze.mul ze;have zg:=za.mul zb;have z4:Sz 3 (4:Rat):=⟨by decide,by decide⟩;have zh:=z4.mul zg;refine⟨?_,(zf.sub zh).mono (by decide)⟩
 unfold mGap;generalize hΓ:tab zqp=Γ;have h10:Γ 10=zci:=by rw [<- hΓ];rfl
 have h58:Γ 58=zcp:=by rw [<- hΓ];rfl
 have h82:Γ 82=zbz:=by rw [<- hΓ];rfl
 have h9:Γ 9=zbv:=by rw [<- hΓ];rfl
 have h11:Γ 11=zam:=by rw [<- hΓ];rfl
 refine yjy h10 h58 h82 h9 h11 (zjv (nodup hl.sh) (nodup hr.sh) (by omega) (by omega) hl.zl hr.zl (by omega) (by omega)) (zpv (by omega) (by omega) zs as) (zpv (by omega) (by omega) (fun q hq=>⟨(hl.zl q hq).1.mono (by decide),(hl.zl q hq).2.mono (by decide)⟩) hl.ar) (zpv (by omega) (by omega) (fun q hq=>⟨(hr.zl q hq).1.mono (by decide),(hr.zl q hq).2.mono (by decide)⟩) hr.ar)
  (d:=fr (Ar l+Ar r)) (e:=fr (Ar (sumL l r)-(Ar l+Ar r))) (f:=fr ((Ar (sumL l r)-(Ar l+Ar r))*(Ar (sumL l r)-(Ar l+Ar r)))) (g:=fr (Ar l*Ar r)) (h:=fr (4*(Ar l*Ar r))) ?_ ?_ ?_ ?_ ?_ ?_ rfl
 ·exact zan (B9 za zb (by decide) (by decide))
 ·exact zan (B9 zc zd (by decide) (by decide))
 ·exact zan (B9 ze ze (by decide) (by decide))
 ·exact zan (B9 za zb (by decide) (by decide))
 ·exact zan (x:=4) (B9 z4 zg (by decide) (by decide))
 ·exact zan (B9 zf zh (by decide) (by decide))
abbrev zqo:List (Nat×(List D->Option W)):=[(82,zbz),(66,zdq),(68,zfb),(69,zep)]
def mLed:List D->Option W:=run (tab zqo) zdc 5
theorem ok_law_led (h82:Γ 82=zbz) (h66:Γ 66=zdq) (h68:Γ 68=zfb) (h69:Γ 69=zep):∀ ds w,ds.length=4->mLed ds=some w->run Γ zdc 5 ds=some w:=fun ds w _ h=>zby zqo (by
 intro p hp;simp only [zqo,Zf,Wd,or_false] at hp;rcases hp with rfl | rfl | rfl | rfl <;> assumption) (by decide) ds w h
theorem yjo {Su Pu Si Tu:List D->Option W} (h82:Γ 82=Su) (h66:Γ 66=Pu) (h68:Γ 68=Si) (h69:Γ 69=Tu) {L R F LP FP LS RS FS LT RT FT L2:List D} {p x:D} (s1:Su [.lst L,.lst R]=some (.new F)) (s2:Su [.lst R,.lst L]=some (.new F)) (p1:Pu [.lst L,p]=some (.new LP)) (s3:Su [.lst LP,.lst R]=some (.new FP)) (p2:Pu [.lst F,p]=some (.new FP))
  (z1:Si [.lst L,x]=some (.new LS)) (z2:Si [.lst R,x]=some (.new RS)) (s4:Su [.lst LS,.lst RS]=some (.new FS)) (z3:Si [.lst F,x]=some (.new FS)) (t1:Tu [.lst L]=some (.new LT)) (t2:Tu [.lst R]=some (.new RT)) (s5:Su [.lst LT,.lst RT]=some (.new FT)) (t3:Tu [.lst F]=some (.new FT))
  (s6:Su [.lst L,.lst L]=some (.new L2)) (z4:Si [.lst L,.tup [.int 2,.int 1]]=some (.new L2)) (n1:cmpD .ne (.lst F) (.lst F)=some false) (n2:cmpD .ne (.lst FP) (.lst FP)=some false) (n3:cmpD .ne (.lst FS) (.lst FS)=some false) (e1:cmpD .eq (.lst FT) (.lst FT)=some true) (e2:cmpD .eq (.lst L2) (.lst L2)=some true) (lF:lfL F=true) :
  run Γ zdc 5 [.lst L,.lst R,p,x]=some (.val (.bl true)):=by
 unfold zdc;walk_at "evh"
end
open Sf Mg
theorem nd_ngR {l:List (Rat×Rat)} (nd:l.Nodup):(l.map ngR).Nodup:=by
 refine Ky.mpr (W4.mpr (List.Pairwise.imp (fun {a b} h e=>h ?_) (Ky.mp nd)));have e1 : -a.1 = -b.1:=congrArg Prod.fst e;have e2 : -a.2 = -b.2:=congrArg Prod.snd e;exact Yv (by grind) (by grind)
def trn (l:List (Rat×Rat)):List (Rat×Rat):=rot (l.map ngR) (low (l.map ngR) (l.map ngR).length 0)
theorem zdm {l:List (Rat×Rat)} (h:IsShp l):IsShp (trn l):=by
 have h3:=h.three;have nl:(l.map ngR).length=l.length:=Zd ..;exact IsShp.of_rot (by rw [nl];exact h3) (ykr h) (zxm (nd_ngR (nodup h)) (l.map ngR).length 0 (Zg _) (by rw [nl];omega) (fun j hj _=>by rw [Qu] at hj;exact absurd hj (Nat.not_lt_zero _)))
theorem zuy (l:List (Rat×Rat)):(trn l).length=l.length:=by unfold trn;rw [zig,Zd]
theorem yhk {l r:List (Rat×Rat)} (hl:IsShp l) (hr:IsShp r):sumL (trn l) (trn r)=trn (sumL l r):=ybg hl hr (zdm hl) (zdm hr) (zdm (sumN hl hr))
theorem eq1 (l:List (Rat×Rat)):cmpD .eq (.lst (l.map stD)) (.lst (l.map stD))=some true/\cmpD .ne (.lst (l.map stD)) (.lst (l.map stD))=some false:=by
 have d:=ygn l;have e:eqO (.lst (l.map stD)) (.lst (l.map stD))=some true:=by
  show (if (dOkL 49 (l.map stD) && dOkL 49 (l.map stD))=true then some (eqL (l.map stD) (l.map stD)) else none)=_;rw [d,if_pos (show (true && true)=true from rfl),eqL_self 49 _ d]
 exact⟨e,by show (eqO _ _).map not=_;rw [e];rfl⟩
theorem szl {l:List (Rat×Rat)} {a b:Nat} (h:SyL a b l) (n:Nat) (ha:a<=n:=by decide) (hb:b<=n:=by decide):SzL n l:=h.sz ha hb
theorem zdn {l r:List (Rat×Rat)} (hl:IsShp l) (hr:IsShp r) (zl:SzL 165 l) (zr:SzL 165 r) (ll:l.length<=400) (rl:r.length<=400):zbz [.lst (l.map stD),.lst (r.map stD)]=some (.new ((sumL l r).map stD)):=
 zjv (nodup hl) (nodup hr) (by have:=hl.three;omega) (by have:=hr.three;omega) zl zr ll rl
theorem znd {l:List (Rat×Rat)} {x:Rat} {a b:Nat} (zl:SyL a b l) (ll:l.length<=1000) (zx:Sy 5 5 x) (x0:0<x.num) (ha:a<=2000:=by decide) (hb:b<=2000:=by decide):zfb [.lst (l.map stD),fr x]=some (.new ((l.map (sc x)).map stD)):=
 zvs ll (zl.sz ha hb) (zx.sz (by decide) (by decide)) x0
theorem zwg {x:Rat} (h:0<x.num):0<x:=by
 refine Rat.not_le.mp fun z=>?_;have e:=zns x;have d:=cast_pos.mpr (zbq x);have:=Vd z (Z5 d)
 rw [<- e,K8] at this;exact absurd (cast_pos.mpr h) (Bm.mpr this)
theorem yjp {l r:List (Rat×Rat)} {p:Rat×Rat} {x:Rat} (hl:IsShp l) (hr:IsShp r) (zl:SyL 62 30 l) (zr:SyL 62 30 r) (ll:l.length<=100) (rl:r.length<=100) (zp:Sy 100 30 p.1/\Sy 100 30 p.2) (zx:Sy 5 5 x) (x0:0<x.num):mLed [.lst (l.map stD),.lst (r.map stD),stD p,fr x]=some (.val (.bl true)):=by
 have l3:=hl.three;have r3:=hr.three;have hS:=sumN hl hr;have sl:=zft l r;have s3:=hS.three;have zS:=zl.sum zr (by omega) (by omega) (k:=92) (by decide) (by decide);have zP:=zl.push zp (k:=130) (by decide) (by decide);have px:=zwg x0;have p200:Sz 200 p.1/\Sz 200 p.2:=⟨zp.1.sz (by decide) (by decide),zp.2.sz (by decide) (by decide)⟩;have hp1:IsShp (l.map (pshR p)):=hl.push p;have e3:sumL (l.map (pshR p)) r=(sumL l r).map (pshR p):=by
  rw [znj];exact zqr hl hr (by rw [<- znj];exact hp1) (by rw [<- znj];exact hS.push p)
 have h1:=Mg.IsShp.sized hl px;have h2:=Mg.IsShp.sized hr px;have h3:=Mg.IsShp.sized hS px;have h4:=Mg.IsShp.sized hl (show (0:Rat)<2 by decide);unfold mLed;generalize hΓ:tab zqo=Γ;have h82:Γ 82=zbz:=by rw [<- hΓ];rfl
 have h66:Γ 66=zdq:=by rw [<- hΓ];rfl
 have h68:Γ 68=zfb:=by rw [<- hΓ];rfl
 have h69:Γ 69=zep:=by rw [<- hΓ];rfl
 have s1:=zdn hl hr (szl zl 165) (szl zr 165) (by omega) (by omega);have s2:=zdn hr hl (szl zr 165) (szl zl 165) (by omega) (by omega);rw [<- zkr hl hr] at s2;have s3':=zdn hp1 hr (szl zP 165) (szl zr 165) (by rw [Zd];omega) (by omega);rw [e3] at s3';have s4:=zdn h1 h2 (szl (zl.size zx) 165) (szl (zr.size zx) 165) (by rw [Zd];omega) (by rw [Zd];omega);rw [ybi (Z5 px) hl hr h1 h2 h3] at s4;have s5:=zdn (zdm hl) (zdm hr) (szl (show SyL 62 30 (trn l) from zl.turn) 165) (szl (show SyL 62 30 (trn r) from zr.turn) 165) (by rw [zuy];omega) (by rw [zuy];omega);rw [yhk hl hr] at s5;have s6:=zdn hl hl (szl zl 165) (szl zl 165) (by omega) (by omega);rw [ybj hl h4] at s6;refine yjo h82 h66 h68 h69 s1 s2 (zfw (by omega) (szl zl 165) p200) s3' (zfw (by omega) (szl zS 165) p200) (znd zl (by omega) zx x0) (znd zr (by omega) zx x0) s4 (znd zS (by omega) zx x0)
  (zfr (szl zl 165) (by omega) (by omega)) (zfr (szl zr 165) (by omega) (by omega)) s5 (zfr (szl zS 165) (by omega) (by omega)) s6 (znd (x:=2) zl (by omega) ⟨by decide,by decide⟩ (by decide)) (eq1 _).2 (eq1 _).2 (eq1 _).2 (eq1 _).1 (eq1 _).1 (zgc _)
theorem zxh (a b:Int) (q:Rat×Rat):lv a b q=xr ((b:Rat),-(a:Rat)) q:=by unfold lv xr;grind
theorem zky {a b:Int} (ha:a.natAbs<2^110) (hb:b.natAbs<2^110) {l:List (Rat×Rat)} (hz:SzL 165 l) {u:Rat×Rat} (h:Lo l (ng ((b:Rat),-(a:Rat))) u):zkb [.lst (l.map stD),.int a,.int b]=some (.val (fr (lv a b u))):=by
 match l,hz,h with
 | [],_,h=>cases h.1
 | q::r,hz,h=>
  rw [zwe ha hb hz];have le:∀ c∈q::r,lv a b c<=lv a b u:=fun c hc=>by
   have:=h.2 c hc
   rw [zxh,zxh];unfold xr mn ng at *;grind
  refine xi (mx_ok a b r (lv a b q)) fun k1 k2 k3=>?_;have e:mx a b (lv a b q) r=lv a b u:=by
   refine Rat.le_antisymm ?_ ?_
   ·rcases k3 with k | ⟨c,hc,k⟩
    ·rw [k];exact le q (.head _)
    ·rw [k];exact le c (.tail _ hc)
   ·rcases Zf.mp h.1 with k | k
    ·rw [k];exact k1
    ·exact k2 u k
  rw [e]
theorem fr_ne (x:Rat):cmpD .ne (fr x) (fr x)=some false:=by
 have e:eqO (fr x) (fr x)=some true:=by
  have:=ygi x x
  rw [decide_eq_true rfl] at this;exact this
 show (eqO (fr x) (fr x)).map not=_;rw [e];rfl
open Sf Mg
section
variable {Γ:Nat->List D->Option W}
theorem zxv {A P M R Le Su Re Pl Ga Be Pu Si:List D->Option W} (h47:Γ 47=A) (h72:Γ 72=P) (h29:Γ 29=M) (h13:Γ 13=R) (h89:Γ 89=Le) (h82:Γ 82=Su) (h59:Γ 59=Re) (h9:Γ 9=Pl) (h88:Γ 88=Ga) (h21:Γ 21=Be) (h66:Γ 66=Pu) (h68:Γ 68=Si)
  {NS L1 L2 L3 F12 F23 F13 G LS LP:List D} {pp f x y z g h:D} {n:Int} (s1:A [.lst NS,.int 1,.int 4]=some (.new L1)) (s2:A [.lst NS,.int 20,.int 4]=some (.new L2)) (s3:A [.lst NS,.int 40,.int 4]=some (.new L3)) (p:P [.lst NS,.int 50]=some (.val pp)) (mx:M [.lst NS,.int 51]=some (.val (.int n))) (fa:R [.int (1+n%20),.int (1+n/20%20)]=some (.val f))
  (le:Le [.lst L1,.lst L2,pp,f]=some (.val (.bl true))) (u1:Su [.lst L1,.lst L2]=some (.new F12)) (u2:Su [.lst F12,.lst L3]=some (.new G)) (u3:Su [.lst L2,.lst L3]=some (.new F23)) (u4:Su [.lst L1,.lst F23]=some (.new G)) (n1:cmpD .ne (.lst G) (.lst G)=some false)
  (u5:Su [.lst L1,.lst L3]=some (.new F13)) (r1:Re [.lst F13,.int (n/400%19-9),.int (1+n/7600%9)]=some (.val x)) (r2:Re [.lst L1,.int (n/400%19-9),.int (1+n/7600%9)]=some (.val y)) (r3:Re [.lst L3,.int (n/400%19-9),.int (1+n/7600%9)]=some (.val z)) (pl:Pl [y,z]=some (.val x)) (n2:cmpD .ne x x=some false)
  (g1:Ga [.lst L1,.lst L2]=some (.val g)) (be:Be [g,.tup [.int 0,.int 1]]=some (.val (.bl false))) (z1:Si [.lst L1,f]=some (.new LS)) (pu:Pu [.lst LS,pp]=some (.new LP)) (g2:Ga [.lst L1,.lst LP]=some (.val h)) (e:cmpD .eq h (.tup [.int 0,.int 1])=some true)
  (l1:lfL L1=true) (l2:lfL L2=true) (l3:lfL L3=true) (lp:lf pp=true) (lx:lf f=true):run Γ zbw 9 [.lst NS]=some (.val (.bl true)):=by
 unfold zbw;walk_at "evh"
theorem law19 (h47:Γ 47=znv) (h72:Γ 72=zxg) (h29:Γ 29=zbl) (h13:Γ 13=zbu) (h89:Γ 89=mLed) (h82:Γ 82=zbz) (h59:Γ 59=zkb) (h9:Γ 9=zbv) (h88:Γ 88=mGap) (h21:Γ 21=zcq) (h66:Γ 66=zdq) (h68:Γ 68=zfb) (ns:List Int) (hn:ns.length<=63):run Γ zbw 9 [.lst (ns.map D.int)]=some (.val (.bl true)):=by
 refine vf (zia ns 1 4 (by decide) (by decide) (by decide)) fun l ps b f s S hS=>?_;refine vf (zia ns 20 4 (by decide) (by decide) (by decide)) fun r ps' b' f' s' S' hS'=>?_;refine vf (zia ns 40 4 (by decide) (by decide) (by decide)) fun t ps'' b'' f'' s'' S'' hS''=>?_;rw [show ((1:Nat):Int)=1 from rfl,show ((4:Nat):Int)=4 from rfl] at hS;rw [show ((20:Nat):Int)=20 from rfl,show ((4:Nat):Int)=4 from rfl] at hS';rw [show ((40:Nat):Int)=40 from rfl,show ((4:Nat):Int)=4 from rfl] at hS'';have few:∀ {l:List (Rat×Rat)} {ps:List (Int×Int)} {b f s:Int},ShapeBy 4 l ps b f s->l.length<=100:=fun {l ps b f s} h=>by
  have:=h.len
  rw [h.eq,Zd];exact Yn (zjz ps) (by omega)
 have ll:=few S;have rl:=few S';have tl:=few S'';refine xg S.shp fun hl _=>?_;refine xg S'.shp fun hr _=>?_;refine xg S''.shp fun ht _=>?_;refine xk S.ov fun o1 d1 b1 z1=>?_;refine xk S'.ov fun o2 d2 b2 z2=>?_;refine xk S''.ov fun o3 d3 b3 z3=>?_;refine xh (ycg ns 50 (by decide)) fun p hp p1 p2=>?_;rw [show ((50:Nat):Int)=50 from rfl] at hp;refine xh (zda ns 51 (by decide)) fun n hn' _ _=>?_;rw [show ((51:Nat):Int)=51 from rfl] at hn';have e32:(2:Nat)^5=32:=by decide
 have small:∀ i:Int,0<=i->i<=20->i.natAbs<2^5:=fun i g1 g2=>by
  rw [e32];omega
 have nb:1+n/20%20≠0:=by omega
 have zx:Sy 5 5 (Rat.divInt (1+n%20) (1+n/20%20)):=zms nb (small _ (by omega) (by omega)) (small _ (by omega) (by omega));have fa:=zfd (t:=1+n%20) nb (Zl (small (1+n/20%20) (by omega) (by omega)) (Ku (by decide) (by decide)));have x0:0<(Rat.divInt (1+n%20) (1+n/20%20)).num:=by
  have e:(Rat.divInt (1+n%20) (1+n/20%20))*((1+n/20%20:Int):Rat)=((1+n%20:Int):Rat):=by
   rw [Wp];exact Ba (fun z=>nb (Rat.intCast_inj.mp z))
  have q1:(0:Rat)<((1+n/20%20:Int):Rat):=cast_pos.mpr (by omega);have q2:(0:Rat)<((1+n%20:Int):Rat):=cast_pos.mpr (by omega);have hx:0<Rat.divInt (1+n%20) (1+n/20%20):=by
   refine Rat.not_le.mp fun z=>?_;have:=Vd z (Z5 q1)
   rw [e,K8] at this;exact absurd q2 (Bm.mpr this)
  refine cast_pos.mp ?_;rw [zns];exact Wa hx (cast_pos.mpr (zbq _))
 generalize Rat.divInt (1+n%20) (1+n/20%20)=x at *;have px:=zwg x0;have l3:=hl.three;have r3:=hr.three;have t3:=ht.three;have le:=yjp hl hr z1 z2 ll rl ⟨p1,p2⟩ zx x0;have zlr:=z1.sum z2 (by omega) (by omega) (k:=92) (by decide) (by decide);have zrt:=z2.sum z3 (by omega) (by omega) (k:=92) (by decide) (by decide);have zlt:=z1.sum z3 (by omega) (by omega) (k:=92) (by decide) (by decide);have q1:=zft l r;have q2:=zft r t;have q3:=zft l t;have u1:=zdn hl hr (szl z1 165) (szl z2 165) (by omega) (by omega);have u2:=zdn (sumN hl hr) ht (szl zlr 165) (szl z3 165) (by omega) (by omega);have u3:=zdn hr ht (szl z2 165) (szl z3 165) (by omega) (by omega);have u4:=zdn hl (sumN hr ht) (szl z1 165) (szl zrt 165) (by omega) (by omega);rw [<- zvn hl hr ht] at u4;have u5:=zdn hl ht (szl z1 165) (szl z3 165) (by omega) (by omega);have tiny:∀ i:Int,-20<=i->i<=20->i.natAbs<2^110:=fun i g1 g2=>by
  have:(20:Nat)<2^110:=by decide +kernel
  omega
 have ba:(n/400%19-9).natAbs<2^110:=tiny _ (by omega) (by omega);have bb:(1+n/7600%9).natAbs<2^110:=tiny _ (by omega) (by omega);refine xc (zbc hl ht (ng (((1+n/7600%9:Int):Rat),-((n/400%19-9:Int):Rat)))) fun u v k1 k2 k3=>?_;have r1:=zky ba bb (szl zlt 165) k3;have r2:=zky ba bb (szl z1 165) k1;have r3':=zky ba bb (szl z3 165) k2;have eu:lv (n/400%19-9) (1+n/7600%9) (pl u v)=lv (n/400%19-9) (1+n/7600%9) u+lv (n/400%19-9) (1+n/7600%9) v:=by
  rw [zxh,zxh,zxh,zbe]
 rw [eu] at r1;have zu:=ybf ba bb ((szl z1 165) u k1.1).1 ((szl z1 165) u k1.1).2;have zv:=ybf ba bb ((szl z3 165) v k2.1).1 ((szl z3 165) v k2.1).2;have plus:=zan (C:=okRR) (g:=fun x y=>fr (x+y)) (B9 zu zv (by decide) (by decide));have K1:Kn l:=⟨hl,szl z1 165,ll,zwr o1 d1 b1 (by omega) (by decide) (by decide)⟩;have K2:Kn r:=⟨hr,szl z2 165,rl,zwr o2 d2 b2 (by omega) (by decide) (by decide)⟩;have os:∀ q∈sumL l r,Ov (s*s') 93 q:=fun q hq=>by
  refine vc (zpb (by omega) (by omega) hq) fun u hu v hv e=>?_;rw [e];exact (o1 u hu).pl (o2 v hv) d1 d2 b1 b2 (by decide) (by decide)
 refine xg (zyf K1 K2 (szl zlr 300) (zwr os (Yb d1 d2) (zcb b1 b2 (Zg _)) (by omega) (by decide) (by decide))) fun g1 zg=>?_;have ng0:¬ gapR l r<0:=by
  have:=(areas hl hr).2
  unfold gapR;grind
 have be:zcq [fr (gapR l r),fr 0]=some (.val (.bl (decide (gapR l r<0)))):=zan (B9 zg (show Sz 1 (0:Rat) from⟨by decide,by decide⟩) (by decide) (by decide));rw [decide_eq_false ng0] at be;have h1:=Mg.IsShp.sized hl px;have h2:IsShp ((l.map (sc x)).map (pshR p)):=h1.push p;have zs:=z1.size zx;have zq:=zs.push ⟨p1,p2⟩ (k:=135) (by decide) (by decide);have ql:((l.map (sc x)).map (pshR p)).length=l.length:=by rw [Zd,Zd]
 have bx:((x.den:Nat):Int).natAbs<2^5:=zx.b;have dx:=zoe x;have dp:(p.1.den:Int)*(p.2.den:Int)≠0:=Yb (zoe _) (zoe _);have bp:((p.1.den:Int)*(p.2.den:Int)).natAbs<2^60:=zcb (show ((p.1.den:Nat):Int).natAbs<2^30 from p1.b) (show ((p.2.den:Nat):Int).natAbs<2^30 from p2.b) (Zg _);have dsx:s*(x.den:Int)≠0:=Yb d1 dx;have bsx:(s*(x.den:Int)).natAbs<2^35:=zcb b1 bx (Zg _);have oq:∀ q∈(l.map (sc x)).map (pshR p),Ov ((p.1.den:Int)*(p.2.den:Int)*(s*(x.den:Int))) 166 q:=fun q hq=>by
  rw [znj] at hq;refine xa (Z1.mp hq) fun w hw e=>?_;refine xa (Z1.mp hw) fun w' hw' e'=>?_;rw [<- e,<- e'];exact (Ov.pt p1 p2 (k:=130) (by decide)).pl ((o1 w' hw').sc zx (k:=67) (by decide)) dp dsx bp bsx (by decide) (by decide)
 have dq:=Yb dp dsx;have bq:=zcb bp bsx (show 60+35<=95 by decide);have K3:Kn ((l.map (sc x)).map (pshR p)):=⟨h2,szl zq 165,by rw [ql];exact ll,zwr oq dq bq (by rw [ql];omega) (by decide) (by decide)⟩;have zz:=z1.sum zq (by omega) (by rw [ql];omega) (k:=166) (by decide) (by decide);have oz:∀ q∈sumL l ((l.map (sc x)).map (pshR p)),Ov (s*((p.1.den:Int)*(p.2.den:Int)*(s*(x.den:Int)))) 197 q:=fun q hq=>by
  refine vc (zpb (by omega) (by rw [ql];omega) hq) fun u hu v hv e=>?_;rw [e];exact (o1 u hu).pl (oq v hv) d1 dq b1 bq (by decide) (by decide)
 have qz:=zft l ((l.map (sc x)).map (pshR p));refine xg (zyf K1 K3 (szl zz 300) (zwr oz (Yb d1 dq) (zcb b1 bq (Zg _)) (by rw [ql] at qz;omega) (by decide) (by decide))) fun g2 _=>?_;have g0:gapR l ((l.map (sc x)).map (pshR p))=0:=by
  rw [znj];exact no_gap px hl
 rw [g0] at g2;have p200:Sz 200 p.1/\Sz 200 p.2:=⟨p1.sz (by decide) (by decide),p2.sz (by decide) (by decide)⟩;exact zxv h47 h72 h29 h13 h89 h82 h59 h9 h88 h21 h66 h68 hS hS' hS'' hp hn' fa le u1 u2 u3 u4 (eq1 _).2 u5 r1 r2 r3' plus (fr_ne _) g1 be (znd z1 (by omega) zx x0) (zfw (by rw [Zd];omega) (szl zs 165) p200) g2 rfl (zgc _) (zgc _) (zgc _) rfl rfl
end
end DL
namespace LW
open DL
def Γ:Nat → List D → Option W
 | 0=>zao
 | 1=>zbu
 | 2=>zcj
 | 3=>mWhole
 | 9=>zbv
 | 10=>zci
 | 11=>zam
 | 12=>zao
 | 13=>zbu
 | 21=>zcq
 | 28=>zgm
 | 29=>zbl
 | 34=>zeq
 | 40=>zil
 | 41=>zdi
 | 42=>zfc
 | 43=>zpl
 | 45=>zfz
 | 46=>zpk
 | 47=>znv
 | 50=>zgl
 | 58=>zcp
 | 59=>zkb
 | 66=>zdq
 | 67=>zdr
 | 68=>zfb
 | 69=>zep
 | 70=>zek
 | 71=>mFF
 | 72=>zxg
 | 81=>zim
 | 82=>zbz
 | 83=>znw
 | 88=>mGap
 | 89=>mLed
 | _=>fun _=>none
theorem ok_law_turn_k13:∀ ds w,ds.length=3 → Γ 45 ds=some w → run Γ zba 4 ds=some w:=by apply DL.ok_law_turn_k13 <;> rfl
theorem ok_law_ring_k13:∀ ds w,ds.length=1 → Γ 46 ds=some w → run Γ zbb 5 ds=some w:=by apply DL.ok_law_ring_k13 <;> rfl
theorem ok_law_block:∀ ds w,ds.length=2 → Γ 28 ds=some w → run Γ zbr 4 ds=some w:=by apply DL.ok_law_block <;> rfl
theorem ok_law_mixed:∀ ds w,ds.length=2 → Γ 29 ds=some w → run Γ zak 4 ds=some w:=by apply DL.ok_law_mixed <;> rfl
theorem ok_law_points_k13:∀ ds w,ds.length=3 → Γ 34 ds=some w → run Γ zau 10 ds=some w:=by apply DL.ok_law_points_k13 <;> rfl
theorem ok_law_cell_at:∀ ds w,ds.length=2 → Γ 2 ds=some w → run Γ zcf 2 ds=some w:=by apply DL.ok_law_cell_at <;> rfl
theorem ok_law_divisor:∀ ds w,ds.length=2 → Γ 12 ds=some w → run Γ zce 2 ds=some w:=by apply DL.ok_law_divisor <;> rfl
theorem ok_law_lowest:∀ ds w,ds.length=2 → Γ 13 ds=some w → run Γ zcv 3 ds=some w:=by apply DL.ok_law_lowest <;> rfl
theorem ok_law_shape_k13:∀ ds w,ds.length=3 → Γ 47 ds=some w → run Γ zaf 8 ds=some w:=by apply DL.ok_law_shape_k13 <;> rfl
theorem ok_law_push_k16:∀ ds w,ds.length=2 → Γ 72 ds=some w → run Γ zax 6 ds=some w:=by apply DL.ok_law_push_k16 <;> rfl
theorem ok_steps:∀ ds w,ds.length=1 → Γ 41 ds=some w → run Γ zjb 1 ds=some w:=by apply DL.ok_steps <;> rfl
theorem ok_divisor:∀ ds w,ds.length=2 → Γ 0 ds=some w → run Γ zfp 5 ds=some w:=by apply DL.ok_divisor <;> rfl
theorem ok_plus:∀ ds w,ds.length=2 → Γ 9 ds=some w → run Γ zss 5 ds=some w:=by apply DL.ok_plus <;> rfl
theorem ok_minus:∀ ds w,ds.length=2 → Γ 10 ds=some w → run Γ zmk 2 ds=some w:=by apply DL.ok_minus <;> rfl
theorem ok_ratio:∀ ds w,ds.length=2 → Γ 1 ds=some w → run Γ zmj 3 ds=some w:=by apply DL.ok_ratio <;> rfl
theorem ok_times:∀ ds w,ds.length=2 → Γ 11 ds=some w → run Γ zmi 2 ds=some w:=by apply DL.ok_times <;> rfl
theorem ok_lowest_whole:∀ ds w,ds.length=1 → Γ 43 ds=some w → run Γ zaw 6 ds=some w:=by apply DL.ok_lowest_whole <;> rfl
theorem ok_side_between:∀ ds w,ds.length=2 → Γ 42 ds=some w → run Γ zaz 5 ds=some w:=by apply DL.ok_side_between <;> rfl
theorem ok_sides_of:∀ ds w,ds.length=1 → Γ 40 ds=some w → run Γ zcg 1 ds=some w:=by apply DL.ok_sides_of <;> rfl
theorem ok_added:∀ ds w,ds.length=2 → Γ 67 ds=some w → run Γ zjg 2 ds=some w:=by apply DL.ok_added <;> rfl
theorem ok_cross:∀ ds w,ds.length=2 → Γ 81 ds=some w → run Γ zje 2 ds=some w:=by apply DL.ok_cross <;> rfl
theorem ok_next_bend:∀ ds w,ds.length=2 → Γ 83 ds=some w → run Γ zaj 2 ds=some w:=by apply DL.ok_next_bend <;> rfl
theorem ok_summed:∀ ds w,ds.length=2 → Γ 82 ds=some w → run Γ zfo 8 ds=some w:=by apply DL.ok_summed <;> rfl
theorem ok_pushed:∀ ds w,ds.length=2 → Γ 66 ds=some w → run Γ zeh 2 ds=some w:=by apply DL.ok_pushed <;> rfl
theorem ok_sized:∀ ds w,ds.length=2 → Γ 68 ds=some w → run Γ zgi 2 ds=some w:=by apply DL.ok_sized <;> rfl
theorem ok_below:∀ ds w,ds.length=2 → Γ 21 ds=some w → run Γ zml 2 ds=some w:=by apply DL.ok_below <;> rfl
theorem ok_ahead:∀ ds w,ds.length=2 → Γ 70 ds=some w → run Γ zjf 2 ds=some w:=by apply DL.ok_ahead <;> rfl
theorem ok_from_first:∀ ds w,ds.length=1 → Γ 71 ds=some w → run Γ zbd 3 ds=some w:=by apply DL.ok_from_first <;> rfl
theorem ok_turned:∀ ds w,ds.length=1 → Γ 69 ds=some w → run Γ zfn 1 ds=some w:=by apply DL.ok_turned <;> rfl
theorem ok_law_led:∀ ds w,ds.length=4 → Γ 89 ds=some w → run Γ zdc 5 ds=some w:=by apply DL.ok_law_led <;> rfl
theorem ok_level:∀ ds w,ds.length=3 → Γ 50 ds=some w → run Γ zjd 3 ds=some w:=by apply DL.ok_level <;> rfl
theorem ok_reach:∀ ds w,ds.length=3 → Γ 59 ds=some w → run Γ zjc 6 ds=some w:=by apply DL.ok_reach <;> rfl
theorem ok_doubled:∀ ds w,ds.length=1 → Γ 58 ds=some w → run Γ zdy 5 ds=some w:=by apply DL.ok_doubled <;> rfl
theorem ok_law_gap:∀ ds w,ds.length=2 → Γ 88 ds=some w → run Γ zdd 3 ds=some w:=by apply DL.ok_law_gap <;> rfl
theorem ydb:∀ ns:List Int,ns.length ≤ 63 → run Γ zbw 9 [.lst (ns.map D.int)]=some (.val (.bl true)):=by
 intro ns hn;apply DL.law19 <;> first | rfl | exact hn
end LW
namespace LW
open PySem L2 DL
def top (i:Nat):Stmt:=PySem.Challenge.pw_snugfit_k19_whole_sums_of_sums.main.body.getD i (.Pass ⟨0,0,0,0⟩)
theorem bnd1 {x:Str} {st:Stmt} {p0:Str} (h:∀ (kV doc pm:Value) (an:Option Addr) (cdv ct:Value) (a0:Value),bindArgs (PySem.W.fnOf x x (zck st) (Bz st) (Bw st) .none kV doc pm an cdv ct) ⟨[a0],[]⟩=pure ([p0].zip [a0])):Bnd x st [p0]:=fun kV doc pm an cdv ct us hl=>by
 cases us with
 | nil=>cases hl
 | cons a0 r0=>
  cases r0 with
  | nil=>exact h kV doc pm an cdv ct a0
  | cons _ _=>cases hl
theorem bnd2 {x:Str} {st:Stmt} {p0 p1:Str} (h:∀ (kV doc pm:Value) (an:Option Addr) (cdv ct:Value) (a0 a1:Value),bindArgs (PySem.W.fnOf x x (zck st) (Bz st) (Bw st) .none kV doc pm an cdv ct) ⟨[a0,a1],[]⟩=pure ([p0,p1].zip [a0,a1])):Bnd x st [p0,p1]:=fun kV doc pm an cdv ct us hl=>by
 cases us with
 | nil=>cases hl
 | cons a0 r0=>
  cases r0 with
  | nil=>cases hl
  | cons a1 r1=>
   cases r1 with
   | nil=>exact h kV doc pm an cdv ct a0 a1
   | cons _ _=>cases hl
theorem bnd3 {x:Str} {st:Stmt} {p0 p1 p2:Str} (h:∀ (kV doc pm:Value) (an:Option Addr) (cdv ct:Value) (a0 a1 a2:Value),bindArgs (PySem.W.fnOf x x (zck st) (Bz st) (Bw st) .none kV doc pm an cdv ct) ⟨[a0,a1,a2],[]⟩=pure ([p0,p1,p2].zip [a0,a1,a2])):Bnd x st [p0,p1,p2]:=fun kV doc pm an cdv ct us hl=>by
 cases us with
 | nil=>cases hl
 | cons a0 r0=>
  cases r0 with
  | nil=>cases hl
  | cons a1 r1=>
   cases r1 with
   | nil=>cases hl
   | cons a2 r2=>
    cases r2 with
    | nil=>exact h kV doc pm an cdv ct a0 a1 a2
    | cons _ _=>cases hl
theorem bnd4 {x:Str} {st:Stmt} {p0 p1 p2 p3:Str} (h:∀ (kV doc pm:Value) (an:Option Addr) (cdv ct:Value) (a0 a1 a2 a3:Value),bindArgs (PySem.W.fnOf x x (zck st) (Bz st) (Bw st) .none kV doc pm an cdv ct) ⟨[a0,a1,a2,a3],[]⟩=pure ([p0,p1,p2,p3].zip [a0,a1,a2,a3])):Bnd x st [p0,p1,p2,p3]:=fun kV doc pm an cdv ct us hl=>by
 cases us with
 | nil=>cases hl
 | cons a0 r0=>
  cases r0 with
  | nil=>cases hl
  | cons a1 r1=>
   cases r1 with
   | nil=>cases hl
   | cons a2 r2=>
    cases r2 with
    | nil=>cases hl
    | cons a3 r3=>
     cases r3 with
     | nil=>exact h kV doc pm an cdv ct a0 a1 a2 a3
     | cons _ _=>cases hl
theorem zid:FnScope ["_law_one", "_law_two", "_law_three", "_law_found"] ["_law_one", "_law_two", "_law_three"] (Bw (top 38)):=⟨rfl,rfl,rfl,by decide +kernel,rfl,by decide +kernel,by decide +kernel⟩
theorem ziy:Bnd "_law_turn" (top 38) ["_law_one", "_law_two", "_law_three"]:=bnd3 fun _ _ _ _ _ _ _ _ _=>rfl
theorem zie:FnScope ["_law_points_here", "_law_found", "_law_row", "_law_part", "_law_point"] ["_law_points_here"] (Bw (top 39)):=⟨rfl,rfl,rfl,by decide +kernel,rfl,by decide +kernel,by decide +kernel⟩
theorem ziz:Bnd "_law_ring" (top 39) ["_law_points_here"]:=bnd1 fun _ _ _ _ _ _ _=>rfl
theorem znh:FnScope ["_law_script", "_law_k", "_law_cell", "_law_j"] ["_law_script", "_law_k"] (Bw (top 32)):=⟨rfl,rfl,rfl,by decide +kernel,rfl,by decide +kernel,by decide +kernel⟩
theorem zor:Bnd "_law_block" (top 32) ["_law_script", "_law_k"]:=bnd2 fun _ _ _ _ _ _ _ _=>rfl
theorem zng:FnScope ["_law_script", "_law_k", "_law_cell", "_law_number"] ["_law_script", "_law_k"] (Bw (top 33)):=⟨rfl,rfl,rfl,by decide +kernel,rfl,by decide +kernel,by decide +kernel⟩
theorem zoq:Bnd "_law_mixed" (top 33) ["_law_script", "_law_k"]:=bnd2 fun _ _ _ _ _ _ _ _=>rfl
theorem zfu:FnScope ["_law_script", "_law_start", "_law_most", "_law_way", "_law_found", "_law_k", "_law_number", "_law_point", "_law_x", "_law_y"] ["_law_script", "_law_start", "_law_most"] (Bw (top 37)):=⟨rfl,rfl,rfl,by decide +kernel,rfl,by decide +kernel,by decide +kernel⟩
theorem zgh:Bnd "_law_points" (top 37) ["_law_script", "_law_start", "_law_most"]:=bnd3 fun _ _ _ _ _ _ _ _ _=>rfl
theorem zjm:FnScope ["_law_script", "_law_k"] ["_law_script", "_law_k"] (Bw (top 30)):=⟨rfl,rfl,rfl,by decide +kernel,rfl,by decide +kernel,by decide +kernel⟩
theorem zjp:Bnd "_law_cell_at" (top 30) ["_law_script", "_law_k"]:=bnd2 fun _ _ _ _ _ _ _ _=>rfl
theorem zjl:FnScope ["_law_one", "_law_other"] ["_law_one", "_law_other"] (Bw (top 34)):=⟨rfl,rfl,rfl,by decide +kernel,rfl,by decide +kernel,by decide +kernel⟩
theorem zjo:Bnd "_law_divisor" (top 34) ["_law_one", "_law_other"]:=bnd2 fun _ _ _ _ _ _ _ _=>rfl
theorem zku:FnScope ["_law_top", "_law_bottom", "_law_by"] ["_law_top", "_law_bottom"] (Bw (top 35)):=⟨rfl,rfl,rfl,by decide +kernel,rfl,by decide +kernel,by decide +kernel⟩
theorem zmg:Bnd "_law_lowest" (top 35) ["_law_top", "_law_bottom"]:=bnd2 fun _ _ _ _ _ _ _ _=>rfl
theorem zgs:FnScope ["_law_script", "_law_start", "_law_most", "_law_ring_here", "_law_number", "_law_share", "_law_by", "_law_far"] ["_law_script", "_law_start", "_law_most"] (Bw (top 40)):=⟨rfl,rfl,rfl,by decide +kernel,rfl,by decide +kernel,by decide +kernel⟩
theorem zgt:Bnd "_law_shape" (top 40) ["_law_script", "_law_start", "_law_most"]:=bnd3 fun _ _ _ _ _ _ _ _ _=>rfl
theorem zif:FnScope ["_law_script", "_law_k", "_law_number", "_law_cell", "_law_x", "_law_y"] ["_law_script", "_law_k"] (Bw (top 41)):=⟨rfl,rfl,rfl,by decide +kernel,rfl,by decide +kernel,by decide +kernel⟩
theorem zja:Bnd "_law_push" (top 41) ["_law_script", "_law_k"]:=bnd2 fun _ _ _ _ _ _ _ _=>rfl
theorem ybq:FnScope ["shape"] ["shape"] (Bw (top 13)):=⟨rfl,rfl,rfl,by decide +kernel,rfl,by decide +kernel,by decide +kernel⟩
theorem yej:Bnd "steps" (top 13) ["shape"]:=bnd1 fun _ _ _ _ _ _ _=>rfl
theorem ztr:FnScope ["one", "other", "great", "small", "rest"] ["one", "other"] (Bw (top 5)):=⟨rfl,rfl,rfl,by decide +kernel,rfl,by decide +kernel,by decide +kernel⟩
theorem zul:Bnd "divisor" (top 5) ["one", "other"]:=bnd2 fun _ _ _ _ _ _ _ _=>rfl
theorem yhy:FnScope ["one", "other", "shared", "top", "rest"] ["one", "other"] (Bw (top 7)):=⟨rfl,rfl,rfl,by decide +kernel,rfl,by decide +kernel,by decide +kernel⟩
theorem yln:Bnd "plus" (top 7) ["one", "other"]:=bnd2 fun _ _ _ _ _ _ _ _=>rfl
theorem ybu:FnScope ["one", "other"] ["one", "other"] (Bw (top 8)):=⟨rfl,rfl,rfl,by decide +kernel,rfl,by decide +kernel,by decide +kernel⟩
theorem yen:Bnd "minus" (top 8) ["one", "other"]:=bnd2 fun _ _ _ _ _ _ _ _=>rfl
theorem ybt:FnScope ["top", "bottom", "shared"] ["top", "bottom"] (Bw (top 6)):=⟨rfl,rfl,rfl,by decide +kernel,rfl,by decide +kernel,by decide +kernel⟩
theorem yem:Bnd "ratio" (top 6) ["top", "bottom"]:=bnd2 fun _ _ _ _ _ _ _ _=>rfl
theorem ybp:FnScope ["one", "other"] ["one", "other"] (Bw (top 9)):=⟨rfl,rfl,rfl,by decide +kernel,rfl,by decide +kernel,by decide +kernel⟩
theorem yei:Bnd "times" (top 9) ["one", "other"]:=bnd2 fun _ _ _ _ _ _ _ _=>rfl
theorem zic:FnScope ["parts", "common", "part", "tops", "shared", "top"] ["parts"] (Bw (top 16)):=⟨rfl,rfl,rfl,by decide +kernel,rfl,by decide +kernel,by decide +kernel⟩
theorem zix:Bnd "lowest_whole" (top 16) ["parts"]:=bnd1 fun _ _ _ _ _ _ _=>rfl
theorem zib:FnScope ["start", "end", "a", "b", "c"] ["start", "end"] (Bw (top 14)):=⟨rfl,rfl,rfl,by decide +kernel,rfl,by decide +kernel,by decide +kernel⟩
theorem ziw:Bnd "side_between" (top 14) ["start", "end"]:=bnd2 fun _ _ _ _ _ _ _ _=>rfl
theorem zpd:FnScope ["shape"] ["shape"] (Bw (top 12)):=⟨rfl,rfl,rfl,by decide +kernel,rfl,by decide +kernel,by decide +kernel⟩
theorem zpz:Bnd "sides_of" (top 12) ["shape"]:=bnd1 fun _ _ _ _ _ _ _=>rfl
theorem ybz:FnScope ["one", "other"] ["one", "other"] (Bw (top 22)):=⟨rfl,rfl,rfl,by decide +kernel,rfl,by decide +kernel,by decide +kernel⟩
theorem yes:Bnd "added" (top 22) ["one", "other"]:=bnd2 fun _ _ _ _ _ _ _ _=>rfl
theorem ybw:FnScope ["side", "other"] ["side", "other"] (Bw (top 15)):=⟨rfl,rfl,rfl,by decide +kernel,rfl,by decide +kernel,by decide +kernel⟩
theorem yep:Bnd "cross" (top 15) ["side", "other"]:=bnd2 fun _ _ _ _ _ _ _ _=>rfl
theorem znf:FnScope ["sides", "others"] ["sides", "others"] (Bw (top 28)):=⟨rfl,rfl,rfl,by decide +kernel,rfl,by decide +kernel,by decide +kernel⟩
theorem zop:Bnd "next_bend" (top 28) ["sides", "others"]:=bnd2 fun _ _ _ _ _ _ _ _=>rfl
theorem zwa:FnScope ["one", "other", "sides", "others", "corners", "i", "j", "bend"] ["one", "other"] (Bw (top 27)):=⟨rfl,rfl,rfl,by decide +kernel,rfl,by decide +kernel,by decide +kernel⟩
theorem zzp:Bnd "summed" (top 27) ["one", "other"]:=bnd2 fun _ _ _ _ _ _ _ _=>rfl
theorem zwb:FnScope ["shape", "push"] ["shape", "push"] (Bw (top 21)):=⟨rfl,rfl,rfl,by decide +kernel,rfl,by decide +kernel,by decide +kernel⟩
theorem zzq:Bnd "pushed" (top 21) ["shape", "push"]:=bnd2 fun _ _ _ _ _ _ _ _=>rfl
theorem ybr:FnScope ["shape", "factor"] ["shape", "factor"] (Bw (top 23)):=⟨rfl,rfl,rfl,by decide +kernel,rfl,by decide +kernel,by decide +kernel⟩
theorem yek:Bnd "sized" (top 23) ["shape", "factor"]:=bnd2 fun _ _ _ _ _ _ _ _=>rfl
theorem ybx:FnScope ["one", "other"] ["one", "other"] (Bw (top 10)):=⟨rfl,rfl,rfl,by decide +kernel,rfl,by decide +kernel,by decide +kernel⟩
theorem yeq:Bnd "below" (top 10) ["one", "other"]:=bnd2 fun _ _ _ _ _ _ _ _=>rfl
theorem yby:FnScope ["one", "other"] ["one", "other"] (Bw (top 25)):=⟨rfl,rfl,rfl,by decide +kernel,rfl,by decide +kernel,by decide +kernel⟩
theorem yer:Bnd "ahead" (top 25) ["one", "other"]:=bnd2 fun _ _ _ _ _ _ _ _=>rfl
theorem zkv:FnScope ["corners", "first", "k"] ["corners"] (Bw (top 26)):=⟨rfl,rfl,rfl,by decide +kernel,rfl,by decide +kernel,by decide +kernel⟩
theorem zmh:Bnd "from_first" (top 26) ["corners"]:=bnd1 fun _ _ _ _ _ _ _=>rfl
theorem zvz:FnScope ["shape"] ["shape"] (Bw (top 24)):=⟨rfl,rfl,rfl,by decide +kernel,rfl,by decide +kernel,by decide +kernel⟩
theorem zzo:Bnd "turned" (top 24) ["shape"]:=bnd1 fun _ _ _ _ _ _ _=>rfl
theorem ztn:FnScope ["_law_one", "_law_other", "_law_push_here", "_law_factor", "_law_both"] ["_law_one", "_law_other", "_law_push_here", "_law_factor"] (Bw (top 43)):=⟨rfl,rfl,rfl,by decide +kernel,rfl,by decide +kernel,by decide +kernel⟩
theorem zuh:Bnd "_law_led" (top 43) ["_law_one", "_law_other", "_law_push_here", "_law_factor"]:=bnd4 fun _ _ _ _ _ _ _ _ _ _=>rfl
theorem ybv:FnScope ["a", "b", "spot"] ["a", "b", "spot"] (Bw (top 17)):=⟨rfl,rfl,rfl,by decide +kernel,rfl,by decide +kernel,by decide +kernel⟩
theorem yeo:Bnd "level" (top 17) ["a", "b", "spot"]:=bnd3 fun _ _ _ _ _ _ _ _ _=>rfl
theorem ybs:FnScope ["shape", "a", "b", "best", "corner", "found"] ["shape", "a", "b"] (Bw (top 19)):=⟨rfl,rfl,rfl,by decide +kernel,rfl,by decide +kernel,by decide +kernel⟩
theorem yel:Bnd "reach" (top 19) ["shape", "a", "b"]:=bnd3 fun _ _ _ _ _ _ _ _ _=>rfl
theorem ztq:FnScope ["shape", "total", "start", "end", "part"] ["shape"] (Bw (top 18)):=⟨rfl,rfl,rfl,by decide +kernel,rfl,by decide +kernel,by decide +kernel⟩
theorem zuk:Bnd "doubled" (top 18) ["shape"]:=bnd1 fun _ _ _ _ _ _ _=>rfl
theorem ztp:FnScope ["_law_one", "_law_other", "_law_amid"] ["_law_one", "_law_other"] (Bw (top 42)):=⟨rfl,rfl,rfl,by decide +kernel,rfl,by decide +kernel,by decide +kernel⟩
theorem zuj:Bnd "_law_gap" (top 42) ["_law_one", "_law_other"]:=bnd2 fun _ _ _ _ _ _ _ _=>rfl
theorem zto:FnScope ["_law_script", "_law_one", "_law_two", "_law_three", "_law_push_here", "_law_number", "_law_factor", "_law_a", "_law_b"] ["_law_script"] (Bw (top 44)):=⟨rfl,rfl,rfl,by decide +kernel,rfl,by decide +kernel,by decide +kernel⟩
theorem zui:Bnd "law" (top 44) ["_law_script"]:=bnd1 fun _ _ _ _ _ _ _=>rfl
theorem zhs:trSs 40 ⟨["_law_one", "_law_two", "_law_three", "_law_found"],Bw (top 38),[],[],false⟩ (Bz (top 38))=some zba:=by kernel_rfl
theorem zht:trSs 40 ⟨["_law_points_here", "_law_found", "_law_row", "_law_part", "_law_point"],Bw (top 39),[("_law_turn", 45,3)],[],false⟩ (Bz (top 39))=some zbb:=by kernel_rfl
theorem zmr:trSs 40 ⟨["_law_script", "_law_k", "_law_cell", "_law_j"],Bw (top 32),[],[],false⟩ (Bz (top 32))=some zbr:=by kernel_rfl
theorem zmq:trSs 40 ⟨["_law_script", "_law_k", "_law_cell", "_law_number"],Bw (top 33),[("_law_block", 28,2)],[],false⟩ (Bz (top 33))=some zak:=by kernel_rfl
theorem zfs:trSs 40 ⟨["_law_script", "_law_start", "_law_most", "_law_way", "_law_found", "_law_k", "_law_number", "_law_point", "_law_x", "_law_y"],Bw (top 37),[("_law_mixed", 29,2)],[],false⟩ (Bz (top 37))=some zau:=by kernel_rfl
theorem zjk:trSs 40 ⟨["_law_script", "_law_k"],Bw (top 30),[],[],false⟩ (Bz (top 30))=some zcf:=by kernel_rfl
theorem zjj:trSs 40 ⟨["_law_one", "_law_other"],Bw (top 34),[],[],false⟩ (Bz (top 34))=some zce:=by kernel_rfl
theorem zkm:trSs 40 ⟨["_law_top", "_law_bottom", "_law_by"],Bw (top 35),[("_law_divisor", 12,2)],[],false⟩ (Bz (top 35))=some zcv:=by kernel_rfl
theorem zgr:trSs 40 ⟨["_law_script", "_law_start", "_law_most", "_law_ring_here", "_law_number", "_law_share", "_law_by", "_law_far"],Bw (top 40),[("_law_ring", 46,1),("_law_points", 34,3),("_law_mixed", 29,2),("_law_cell_at", 2,2),("_law_lowest", 13,2)],[],false⟩ (Bz (top 40))=some zaf:=by kernel_rfl
theorem zhu:trSs 40 ⟨["_law_script", "_law_k", "_law_number", "_law_cell", "_law_x", "_law_y"],Bw (top 41),[("_law_mixed", 29,2),("_law_cell_at", 2,2),("_law_lowest", 13,2)],[],false⟩ (Bz (top 41))=some zax:=by kernel_rfl
theorem yaq:trSs 40 ⟨["shape"],Bw (top 13),[],[],false⟩ (Bz (top 13))=some zjb:=by kernel_rfl
theorem ztf:trSs 40 ⟨["one", "other", "great", "small", "rest"],Bw (top 5),[],[],false⟩ (Bz (top 5))=some zfp:=by kernel_rfl
theorem yhb:trSs 40 ⟨["one", "other", "shared", "top", "rest"],Bw (top 7),[("divisor", 0,2)],[],false⟩ (Bz (top 7))=some zss:=by kernel_rfl
theorem yau:trSs 40 ⟨["one", "other"],Bw (top 8),[("plus", 9,2)],[],false⟩ (Bz (top 8))=some zmk:=by kernel_rfl
theorem yat:trSs 40 ⟨["top", "bottom", "shared"],Bw (top 6),[("divisor", 0,2)],[],false⟩ (Bz (top 6))=some zmj:=by kernel_rfl
theorem yap:trSs 40 ⟨["one", "other"],Bw (top 9),[("ratio", 1,2)],[],false⟩ (Bz (top 9))=some zmi:=by kernel_rfl
theorem zhr:trSs 40 ⟨["parts", "common", "part", "tops", "shared", "top"],Bw (top 16),[("divisor", 0,2)],[],false⟩ (Bz (top 16))=some zaw:=by kernel_rfl
theorem zhq:trSs 40 ⟨["start", "end", "a", "b", "c"],Bw (top 14),[("minus", 10,2),("plus", 9,2),("times", 11,2),("lowest_whole", 43,1)],[],false⟩ (Bz (top 14))=some zaz:=by kernel_rfl
theorem zoz:trSs 40 ⟨["shape"],Bw (top 12),[("steps", 41,1),("side_between", 42,2)],[],false⟩ (Bz (top 12))=some zcg:=by kernel_rfl
theorem yaz:trSs 40 ⟨["one", "other"],Bw (top 22),[("plus", 9,2)],[],false⟩ (Bz (top 22))=some zjg:=by kernel_rfl
theorem yaw:trSs 40 ⟨["side", "other"],Bw (top 15),[],[],false⟩ (Bz (top 15))=some zje:=by kernel_rfl
theorem zmp:trSs 40 ⟨["sides", "others"],Bw (top 28),[("cross", 81,2)],[],false⟩ (Bz (top 28))=some zaj:=by kernel_rfl
theorem zva:trSs 40 ⟨["one", "other", "sides", "others", "corners", "i", "j", "bend"],Bw (top 27),[("sides_of", 40,1),("added", 67,2),("next_bend", 83,2)],[],false⟩ (Bz (top 27))=some zfo:=by kernel_rfl
theorem zvb:trSs 40 ⟨["shape", "push"],Bw (top 21),[("added", 67,2)],[],false⟩ (Bz (top 21))=some zeh:=by kernel_rfl
theorem yar:trSs 40 ⟨["shape", "factor"],Bw (top 23),[("times", 11,2)],[],false⟩ (Bz (top 23))=some zgi:=by kernel_rfl
theorem yax:trSs 40 ⟨["one", "other"],Bw (top 10),[],[],false⟩ (Bz (top 10))=some zml:=by kernel_rfl
theorem yay:trSs 40 ⟨["one", "other"],Bw (top 25),[("below", 21,2)],[],false⟩ (Bz (top 25))=some zjf:=by kernel_rfl
theorem zkn:trSs 40 ⟨["corners", "first", "k"],Bw (top 26),[("ahead", 70,2)],[],false⟩ (Bz (top 26))=some zbd:=by kernel_rfl
theorem zuz:trSs 40 ⟨["shape"],Bw (top 24),[("from_first", 71,1)],[],false⟩ (Bz (top 24))=some zfn:=by kernel_rfl
theorem ztb:trSs 40 ⟨["_law_one", "_law_other", "_law_push_here", "_law_factor", "_law_both"],Bw (top 43),[("summed", 82,2),("pushed", 66,2),("sized", 68,2),("turned", 69,1)],[],false⟩ (Bz (top 43))=some zdc:=by kernel_rfl
theorem yav:trSs 40 ⟨["a", "b", "spot"],Bw (top 17),[("plus", 9,2),("times", 11,2)],[],false⟩ (Bz (top 17))=some zjd:=by kernel_rfl
theorem yas:trSs 40 ⟨["shape", "a", "b", "best", "corner", "found"],Bw (top 19),[("level", 50,3),("below", 21,2)],[],false⟩ (Bz (top 19))=some zjc:=by kernel_rfl
theorem zte:trSs 40 ⟨["shape", "total", "start", "end", "part"],Bw (top 18),[("steps", 41,1),("minus", 10,2),("times", 11,2),("plus", 9,2)],[],false⟩ (Bz (top 18))=some zdy:=by kernel_rfl
theorem ztd:trSs 40 ⟨["_law_one", "_law_other", "_law_amid"],Bw (top 42),[("minus", 10,2),("doubled", 58,1),("summed", 82,2),("plus", 9,2),("times", 11,2)],[],false⟩ (Bz (top 42))=some zdd:=by kernel_rfl
theorem ztc:trSs 40 ⟨["_law_script", "_law_one", "_law_two", "_law_three", "_law_push_here", "_law_number", "_law_factor", "_law_a", "_law_b"],Bw (top 44),[("_law_shape", 47,3),("_law_push", 72,2),("_law_mixed", 29,2),("_law_lowest", 13,2),("_law_led", 89,4),("summed", 82,2),("reach", 59,3),("plus", 9,2),("below", 21,2),("_law_gap", 88,2),("pushed", 66,2),("sized", 68,2)],[],false⟩ (Bz (top 44))=some zbw:=by kernel_rfl
section
variable {P:Program} {w:World} {K:PySem.W.Frag} {h:Heap} {mg:Str → Option Value} {fa:Addr}
theorem all_mk (X:K.In h) (G:h.Ns mainGlobals mg) (hfa:mg "law" = some (.ref fa)) (A_law_turn_k13:At K "_law_turn" (top 38)) (A_law_ring_k13:At K "_law_ring" (top 39)) (A_law_block:At K "_law_block" (top 32)) (A_law_mixed:At K "_law_mixed" (top 33)) (A_law_points_k13:At K "_law_points" (top 37)) (A_law_cell_at:At K "_law_cell_at" (top 30)) (A_law_divisor:At K "_law_divisor" (top 34)) (A_law_lowest:At K "_law_lowest" (top 35)) (A_law_shape_k13:At K "_law_shape" (top 40)) (A_law_push_k16:At K "_law_push" (top 41)) (A_steps:At K "steps" (top 13)) (A_divisor:At K "divisor" (top 5)) (A_plus:At K "plus" (top 7)) (A_minus:At K "minus" (top 8)) (A_ratio:At K "ratio" (top 6)) (A_times:At K "times" (top 9)) (A_lowest_whole:At K "lowest_whole" (top 16)) (A_side_between:At K "side_between" (top 14)) (A_sides_of:At K "sides_of" (top 12)) (A_added:At K "added" (top 22)) (A_cross:At K "cross" (top 15)) (A_next_bend:At K "next_bend" (top 28)) (A_summed:At K "summed" (top 27)) (A_pushed:At K "pushed" (top 21)) (A_sized:At K "sized" (top 23)) (A_below:At K "below" (top 10)) (A_ahead:At K "ahead" (top 25)) (A_from_first:At K "from_first" (top 26)) (A_turned:At K "turned" (top 24)) (A_law_led:At K "_law_led" (top 43)) (A_level:At K "level" (top 17)) (A_reach:At K "reach" (top 19)) (A_doubled:At K "doubled" (top 18)) (A_law_gap:At K "_law_gap" (top 42)) (A_law_k19:At K "law" (top 44))
  (z_len:PySem.W.nsIn K mainGlobals "len" = some none) (z_abs:PySem.W.nsIn K mainGlobals "abs" = some none) (z_isinstance:PySem.W.nsIn K mainGlobals "isinstance" = some none) (z_int:PySem.W.nsIn K mainGlobals "int" = some none) (z_bool:PySem.W.nsIn K mainGlobals "bool" = some none) (z_tuple:PySem.W.nsIn K mainGlobals "tuple" = some none) (z_list:PySem.W.nsIn K mainGlobals "list" = some none) (z_range:PySem.W.nsIn K mainGlobals "range" = some none) (z_enumerate:PySem.W.nsIn K mainGlobals "enumerate" = some none) (z_min:PySem.W.nsIn K mainGlobals "min" = some none) (z_max:PySem.W.nsIn K mainGlobals "max" = some none) (z_sorted:PySem.W.nsIn K mainGlobals "sorted" = some none) (z_set:PySem.W.nsIn K mainGlobals "set" = some none) (z_reversed:PySem.W.nsIn K mainGlobals "reversed" = some none) (z_zip:PySem.W.nsIn K mainGlobals "zip" = some none) (z_sum:PySem.W.nsIn K mainGlobals "sum" = some none) :
  ∃ fd:FuncData,(∀ (s:Shared) (v:Value),BindsTo s fd ⟨[v],[]⟩ [("_law_script", v)]) ∧ ∀ base:Heap,K.In base → base.Ns mainGlobals mg → FnOk P w K mg base CX0 35 fa fd ["_law_script"] (spD K 1 (run Γ zbw 9)):=by
 have hb:∀ x∈zct,mg x=none:=yeb X G (by
  intro x hx;simp only [zct,Zf,Wd,or_false] at hx;rcases hx with rfl | rfl | rfl | rfl | rfl | rfl | rfl | rfl | rfl | rfl | rfl | rfl | rfl | rfl | rfl | rfl <;> assumption)
 refine law_at A_law_k19 X G hfa zto zui ztc (fun base hk hn=>?_);have G_law_turn_k13:GFn P w K mg base 1 "_law_turn" 3 (Γ 45):=zac (k:=0) A_law_turn_k13 X G zid ziy zhs rfl ⟨Calls.nil,CallsR.nil,(fun h=>nomatch h),hb⟩ ok_law_turn_k13;have G_law_ring_k13:GFn P w K mg base 2 "_law_ring" 1 (Γ 46):=zac (k:=1) A_law_ring_k13 X G zie ziz zht rfl ⟨(Calls.cons G_law_turn_k13 (by decide) Calls.nil),CallsR.nil,(fun h=>nomatch h),hb⟩ ok_law_ring_k13;have G_law_block:GFn P w K mg base 3 "_law_block" 2 (Γ 28):=zac (k:=2) A_law_block X G znh zor zmr rfl ⟨Calls.nil,CallsR.nil,(fun h=>nomatch h),hb⟩ ok_law_block;have G_law_mixed:GFn P w K mg base 4 "_law_mixed" 2 (Γ 29):=zac (k:=3) A_law_mixed X G zng zoq zmq rfl ⟨(Calls.cons G_law_block (by decide) Calls.nil),CallsR.nil,(fun h=>nomatch h),hb⟩ ok_law_mixed;have G_law_points_k13:GFn P w K mg base 5 "_law_points" 3 (Γ 34):=zac (k:=4) A_law_points_k13 X G zfu zgh zfs rfl ⟨(Calls.cons G_law_mixed (by decide) Calls.nil),CallsR.nil,(fun h=>nomatch h),hb⟩ ok_law_points_k13;have G_law_cell_at:GFn P w K mg base 6 "_law_cell_at" 2 (Γ 2):=zac (k:=5) A_law_cell_at X G zjm zjp zjk rfl ⟨Calls.nil,CallsR.nil,(fun h=>nomatch h),hb⟩ ok_law_cell_at;have G_law_divisor:GFn P w K mg base 7 "_law_divisor" 2 (Γ 12):=zac (k:=6) A_law_divisor X G zjl zjo zjj rfl ⟨Calls.nil,CallsR.nil,(fun h=>nomatch h),hb⟩ ok_law_divisor;have G_law_lowest:GFn P w K mg base 8 "_law_lowest" 2 (Γ 13):=zac (k:=7) A_law_lowest X G zku zmg zkm rfl ⟨(Calls.cons G_law_divisor (by decide) Calls.nil),CallsR.nil,(fun h=>nomatch h),hb⟩ ok_law_lowest;have G_law_shape_k13:GFn P w K mg base 9 "_law_shape" 3 (Γ 47):=zac (k:=8) A_law_shape_k13 X G zgs zgt zgr rfl ⟨(Calls.cons G_law_ring_k13 (by decide) (Calls.cons G_law_points_k13 (by decide) (Calls.cons G_law_mixed (by decide) (Calls.cons G_law_cell_at (by decide) (Calls.cons G_law_lowest (by decide) Calls.nil))))),CallsR.nil,(fun h=>nomatch h),hb⟩ ok_law_shape_k13;have G_law_push_k16:GFn P w K mg base 10 "_law_push" 2 (Γ 72):=zac (k:=9) A_law_push_k16 X G zif zja zhu rfl ⟨(Calls.cons G_law_mixed (by decide) (Calls.cons G_law_cell_at (by decide) (Calls.cons G_law_lowest (by decide) Calls.nil))),CallsR.nil,(fun h=>nomatch h),hb⟩ ok_law_push_k16;have G_steps:GFn P w K mg base 11 "steps" 1 (Γ 41):=zac (k:=10) A_steps X G ybq yej yaq rfl ⟨Calls.nil,CallsR.nil,(fun h=>nomatch h),hb⟩ ok_steps;have G_divisor:GFn P w K mg base 12 "divisor" 2 (Γ 0):=zac (k:=11) A_divisor X G ztr zul ztf rfl ⟨Calls.nil,CallsR.nil,(fun h=>nomatch h),hb⟩ ok_divisor;have G_plus:GFn P w K mg base 13 "plus" 2 (Γ 9):=zac (k:=12) A_plus X G yhy yln yhb rfl ⟨(Calls.cons G_divisor (by decide) Calls.nil),CallsR.nil,(fun h=>nomatch h),hb⟩ ok_plus;have G_minus:GFn P w K mg base 14 "minus" 2 (Γ 10):=zac (k:=13) A_minus X G ybu yen yau rfl ⟨(Calls.cons G_plus (by decide) Calls.nil),CallsR.nil,(fun h=>nomatch h),hb⟩ ok_minus;have G_ratio:GFn P w K mg base 15 "ratio" 2 (Γ 1):=zac (k:=14) A_ratio X G ybt yem yat rfl ⟨(Calls.cons G_divisor (by decide) Calls.nil),CallsR.nil,(fun h=>nomatch h),hb⟩ ok_ratio;have G_times:GFn P w K mg base 16 "times" 2 (Γ 11):=zac (k:=15) A_times X G ybp yei yap rfl ⟨(Calls.cons G_ratio (by decide) Calls.nil),CallsR.nil,(fun h=>nomatch h),hb⟩ ok_times;have G_lowest_whole:GFn P w K mg base 17 "lowest_whole" 1 (Γ 43):=zac (k:=16) A_lowest_whole X G zic zix zhr rfl ⟨(Calls.cons G_divisor (by decide) Calls.nil),CallsR.nil,(fun h=>nomatch h),hb⟩ ok_lowest_whole;have G_side_between:GFn P w K mg base 18 "side_between" 2 (Γ 42):=zac (k:=17) A_side_between X G zib ziw zhq rfl ⟨(Calls.cons G_minus (by decide) (Calls.cons G_plus (by decide) (Calls.cons G_times (by decide) (Calls.cons G_lowest_whole (by decide) Calls.nil)))),CallsR.nil,(fun h=>nomatch h),hb⟩ ok_side_between;have G_sides_of:GFn P w K mg base 19 "sides_of" 1 (Γ 40):=zac (k:=18) A_sides_of X G zpd zpz zoz rfl ⟨(Calls.cons G_steps (by decide) (Calls.cons G_side_between (by decide) Calls.nil)),CallsR.nil,(fun h=>nomatch h),hb⟩ ok_sides_of;have G_added:GFn P w K mg base 20 "added" 2 (Γ 67):=zac (k:=19) A_added X G ybz yes yaz rfl ⟨(Calls.cons G_plus (by decide) Calls.nil),CallsR.nil,(fun h=>nomatch h),hb⟩ ok_added;have G_cross:GFn P w K mg base 21 "cross" 2 (Γ 81):=zac (k:=20) A_cross X G ybw yep yaw rfl ⟨Calls.nil,CallsR.nil,(fun h=>nomatch h),hb⟩ ok_cross;have G_next_bend:GFn P w K mg base 22 "next_bend" 2 (Γ 83):=zac (k:=21) A_next_bend X G znf zop zmp rfl ⟨(Calls.cons G_cross (by decide) Calls.nil),CallsR.nil,(fun h=>nomatch h),hb⟩ ok_next_bend;have G_summed:GFn P w K mg base 23 "summed" 2 (Γ 82):=zac (k:=22) A_summed X G zwa zzp zva rfl ⟨(Calls.cons G_sides_of (by decide) (Calls.cons G_added (by decide) (Calls.cons G_next_bend (by decide) Calls.nil))),CallsR.nil,(fun h=>nomatch h),hb⟩ ok_summed;have G_pushed:GFn P w K mg base 24 "pushed" 2 (Γ 66):=zac (k:=23) A_pushed X G zwb zzq zvb rfl ⟨(Calls.cons G_added (by decide) Calls.nil),CallsR.nil,(fun h=>nomatch h),hb⟩ ok_pushed;have G_sized:GFn P w K mg base 25 "sized" 2 (Γ 68):=zac (k:=24) A_sized X G ybr yek yar rfl ⟨(Calls.cons G_times (by decide) Calls.nil),CallsR.nil,(fun h=>nomatch h),hb⟩ ok_sized;have G_below:GFn P w K mg base 26 "below" 2 (Γ 21):=zac (k:=25) A_below X G ybx yeq yax rfl ⟨Calls.nil,CallsR.nil,(fun h=>nomatch h),hb⟩ ok_below;have G_ahead:GFn P w K mg base 27 "ahead" 2 (Γ 70):=zac (k:=26) A_ahead X G yby yer yay rfl ⟨(Calls.cons G_below (by decide) Calls.nil),CallsR.nil,(fun h=>nomatch h),hb⟩ ok_ahead;have G_from_first:GFn P w K mg base 28 "from_first" 1 (Γ 71):=zac (k:=27) A_from_first X G zkv zmh zkn rfl ⟨(Calls.cons G_ahead (by decide) Calls.nil),CallsR.nil,(fun h=>nomatch h),hb⟩ ok_from_first;have G_turned:GFn P w K mg base 29 "turned" 1 (Γ 69):=zac (k:=28) A_turned X G zvz zzo zuz rfl ⟨(Calls.cons G_from_first (by decide) Calls.nil),CallsR.nil,(fun h=>nomatch h),hb⟩ ok_turned;have G_law_led:GFn P w K mg base 30 "_law_led" 4 (Γ 89):=zac (k:=29) A_law_led X G ztn zuh ztb rfl ⟨(Calls.cons G_summed (by decide) (Calls.cons G_pushed (by decide) (Calls.cons G_sized (by decide) (Calls.cons G_turned (by decide) Calls.nil)))),CallsR.nil,(fun h=>nomatch h),hb⟩ ok_law_led;have G_level:GFn P w K mg base 31 "level" 3 (Γ 50):=zac (k:=30) A_level X G ybv yeo yav rfl ⟨(Calls.cons G_plus (by decide) (Calls.cons G_times (by decide) Calls.nil)),CallsR.nil,(fun h=>nomatch h),hb⟩ ok_level;have G_reach:GFn P w K mg base 32 "reach" 3 (Γ 59):=zac (k:=31) A_reach X G ybs yel yas rfl ⟨(Calls.cons G_level (by decide) (Calls.cons G_below (by decide) Calls.nil)),CallsR.nil,(fun h=>nomatch h),hb⟩ ok_reach;have G_doubled:GFn P w K mg base 33 "doubled" 1 (Γ 58):=zac (k:=32) A_doubled X G ztq zuk zte rfl ⟨(Calls.cons G_steps (by decide) (Calls.cons G_minus (by decide) (Calls.cons G_times (by decide) (Calls.cons G_plus (by decide) Calls.nil)))),CallsR.nil,(fun h=>nomatch h),hb⟩ ok_doubled;have G_law_gap:GFn P w K mg base 34 "_law_gap" 2 (Γ 88):=zac (k:=33) A_law_gap X G ztp zuj ztd rfl ⟨(Calls.cons G_minus (by decide) (Calls.cons G_doubled (by decide) (Calls.cons G_summed (by decide) (Calls.cons G_plus (by decide) (Calls.cons G_times (by decide) Calls.nil))))),CallsR.nil,(fun h=>nomatch h),hb⟩ ok_law_gap;exact⟨(Calls.cons G_law_shape_k13 (by decide) (Calls.cons G_law_push_k16 (by decide) (Calls.cons G_law_mixed (by decide) (Calls.cons G_law_lowest (by decide) (Calls.cons G_law_led (by decide) (Calls.cons G_summed (by decide) (Calls.cons G_reach (by decide) (Calls.cons G_plus (by decide) (Calls.cons G_below (by decide) (Calls.cons G_law_gap (by decide) (Calls.cons G_pushed (by decide) (Calls.cons G_sized (by decide) Calls.nil)))))))))))),CallsR.nil,(fun h=>nomatch h),hb⟩
end
theorem walk {l:PySem.W.OpenLaw} {q:Program} {loose:List Str} {XP:(Str → Option Value) → Heap → Prop} {YP:World → Heap → Prop} {d:DefRec} {K:Params → PySem.W.Frag} (hn:l.most=some 63) (hdf:d.params.defaults=[])
  (hY:∀ (w:World) (h:Heap),YP w h → (K w.params).In h)
  (F:∀ (w:World) (mg:Str → Option Value) (fa:Addr) (h:Heap),(K w.params).In h → h.Ns mainGlobals mg → mg d.name=some (.ref fa) →
   ∃ fd:FuncData,(∀ (s:Shared) (u:Value),BindsTo s fd ⟨[u],[]⟩ [("_law_script", u)]) ∧ ∀ base:Heap,(K w.params).In base → base.Ns mainGlobals mg → FnOk l.prog w (K w.params) mg base CX0 35 fa fd ["_law_script"] (spD (K w.params) 1 (run Γ zbw 9))) :
  PySem.W.WalkO q loose XP YP l.row.toRowW d [] (fun f vs=>PySem.call f vs):=
 L2.walk_of (n:=63) (k:=35) (x := "_law_script") (CX:=fun _=>CX0) (sp:=fun w=>spD (K w.params) 1 (run Γ zbw 9)) hn (by decide) hdf ⟨rfl,by decide,by decide⟩ hY F (fun _ H a ns hl _ hS=>ydc ydb H a ns hl hS) fun _ _ _ _ _ z=>z
end LW
open PySem PySem.W PyProof.Rows
/-! size: the head lays twins of its constants; where these names stand it goes on without -/
namespace PySem.W.Fast
theorem tw3129821284786607826:True:=⟨⟩
theorem tw9572100368796780174:True:=⟨⟩
theorem tw9483835020727757764:True:=⟨⟩
theorem tw13334424687456900211:True:=⟨⟩
theorem tw3566631040100140464:True:=⟨⟩
theorem tw13616364423952268386:True:=⟨⟩
theorem tw3390799714916535633:True:=⟨⟩
theorem tw8139053934254403119:True:=⟨⟩
theorem tw4172356952705239608:True:=⟨⟩
theorem tw3019204519240088480:True:=⟨⟩
theorem tw15986104662472367140:True:=⟨⟩
theorem tw2856329757885921332:True:=⟨⟩
theorem tw9271954619417134759:True:=⟨⟩
theorem tw7382869830358914474:True:=⟨⟩
theorem tw8898779098407131733:True:=⟨⟩
theorem tw3795646549297106608:True:=⟨⟩
theorem tw11001869763412345741:True:=⟨⟩
theorem tw12554684273155332525:True:=⟨⟩
theorem tw6237803407989660:True:=⟨⟩
theorem tw711178254666855760:True:=⟨⟩
theorem tw7118840879891275641:True:=⟨⟩
theorem tw1497393824682930712:True:=⟨⟩
theorem tw18080178650740216189:True:=⟨⟩
theorem tw14509297285538562922:True:=⟨⟩
theorem tw12503059422955317262:True:=⟨⟩
theorem tw243196721598980457:True:=⟨⟩
theorem tw18143365543870297287:True:=⟨⟩
theorem tw6554560495613606098:True:=⟨⟩
theorem tw12311799444657928217:True:=⟨⟩
theorem tw1405290367407923495:True:=⟨⟩
theorem tw12850357302920134065:True:=⟨⟩
theorem tw1436180689699536650:True:=⟨⟩
theorem tw11592243781502407091:True:=⟨⟩
theorem tw4074934076493325985:True:=⟨⟩
theorem tw12250215043992821275:True:=⟨⟩
theorem tw8888093421229345301:True:=⟨⟩
theorem tw17406281489300190456:True:=⟨⟩
theorem tw3813725265041201020:True:=⟨⟩
theorem tw7725229543469077964:True:=⟨⟩
theorem tw4462511060783545598:True:=⟨⟩
end PySem.W.Fast
set_option maxRecDepth 100000 in
set_option maxHeartbeats 0 in
theorem PySem.Challenge.cw_snugfit_k19_whole_sums_of_sums_holds : PySem.Challenge.rw_snugfit_k19_whole_sums_of_sums.Holds := by
 w_on;o_law;k_head;(case hw=>w_witness2)
 k_fill
 refine LW.walk (l:=PySem.Challenge.rw_snugfit_k19_whole_sums_of_sums) rfl rfl (fun w h Y=>PySem.W.kIn_of Y) ?F
 case F=>
  intro w mg fa h KX G hmg;refine' LW.all_mk KX G hmg ?_ ?_ ?_ ?_ ?_ ?_ ?_ ?_ ?_ ?_ ?_ ?_ ?_ ?_ ?_ ?_ ?_ ?_ ?_ ?_ ?_ ?_ ?_ ?_ ?_ ?_ ?_ ?_ ?_ ?_ ?_ ?_ ?_ ?_ ?_ ?_ ?_ ?_ ?_ ?_ ?_ ?_ ?_ ?_ ?_ ?_ ?_ ?_ ?_ ?_ ?_
  all_goals first|(refine' DL.at_mk ?a ?l ?c ?k;(case a=>k_is);(case l=>k_is);(case c=>k_is);(case k=>k_is))|k_is
#print axioms PySem.Challenge.cw_snugfit_k19_whole_sums_of_sums_holds

import PyProof.Rows.All
import Wide.All
import OpenK.AllK
import Wide.FinOn
import Lean
import PyProof.EqAt
import PyProof.EqKinds
import PyProof.TupleCall
import PyProof.P3In
import PyProof.Rows.EqDataRows
import KE.KTryMore
import PyProof.SetScanFacts
import PyProof.Rows.SetFrom
import PyProof.SetRoads
import KE.KSortAsk
import KE.KSortTup
import KE.KRevIter
import PyProof.ZipIter
import PySem.Challenge.RW_snugfit_k18_whole_sum
set_option Elab.async false
set_option linter.all false
set_option maxRecDepth 100000
set_option maxHeartbeats 8000000
set_option compiler.extract_closed false
set_option genSizeOf false
set_option genInjectivity false
local macro_rules | `(tactic| omega) => `(tactic| first | (with_reducible assumption) | (with_reducible refine Nat.le_trans (by assumption) ?_; decide) | (with_reducible refine Nat.lt_of_lt_of_le ?_ (by assumption); decide) | lia)
local macro_rules | `(tactic| omega) => `(tactic| first | (with_reducible assumption) | (with_reducible refine Nat.le_trans (by assumption) ?_; decide) | (with_reducible refine Nat.lt_of_lt_of_le ?_ (by assumption); decide) | lia)
theorem xg  {A0:Prop} {A1:Prop} {G:Prop} (h:(A0)/\A1) (k:A0->A1->G):G:=k h.1 h.2
theorem xj  {A0:Prop} {A1:Prop} {A2:Prop} {G:Prop} (h:(A0)/\(A1)/\A2) (k:A0->A1->A2->G):G:=k h.1 h.2.1 h.2.2
theorem xk  {A0:Prop} {A1:Prop} {A2:Prop} {A3:Prop} {G:Prop} (h:(A0)/\(A1)/\(A2)/\A3) (k:A0->A1->A2->A3->G):G:=k h.1 h.2.1 h.2.2.1 h.2.2.2
theorem xx  {A0:Prop} {A1:Prop} {A2:Prop} {A3:Prop} {A4:Prop} {G:Prop} (h:(A0)/\(A1)/\(A2)/\(A3)/\A4) (k:A0->A1->A2->A3->A4->G):G:=k h.1 h.2.1 h.2.2.1 h.2.2.2.1 h.2.2.2.2
theorem xt  {A0:Prop} {A1:Prop} {A2:Prop} {A3:Prop} {A4:Prop} {A5:Prop} {G:Prop} (h:(A0)/\(A1)/\(A2)/\(A3)/\(A4)/\A5) (k:A0->A1->A2->A3->A4->A5->G):G:=k h.1 h.2.1 h.2.2.1 h.2.2.2.1 h.2.2.2.2.1 h.2.2.2.2.2
theorem vp  {A0:Prop} {A1:Prop} {A2:Prop} {A3:Prop} {A4:Prop} {A5:Prop} {A6:Prop} {A7:Prop} {G:Prop} (h:(A0)/\(A1)/\(A2)/\(A3)/\(A4)/\(A5)/\(A6)/\A7) (k:A0->A1->A2->A3->A4->A5->A6->A7->G):G:=k h.1 h.2.1 h.2.2.1 h.2.2.2.1 h.2.2.2.2.1 h.2.2.2.2.2.1 h.2.2.2.2.2.2.1 h.2.2.2.2.2.2.2
theorem xb.{u0} {a0:Sort u0} {A1:a0->Prop} {G:Prop} (h:∃ v0,A1 v0) (k:∀ v0,A1 v0->G):G:=Exists.elim h fun v0 h0=>k v0 h0
theorem xa.{u0} {a0:Sort u0} {A1:a0->Prop} {A2:a0->Prop} {G:Prop} (h:∃ v0,(A1 v0)/\A2 v0) (k:∀ v0,A1 v0->A2 v0->G):G:=Exists.elim h fun v0 h0=>k v0 h0.1 h0.2
theorem xh.{u0} {a0:Sort u0} {A1:a0->Prop} {A2:a0->Prop} {A3:a0->Prop} {G:Prop} (h:∃ v0,(A1 v0)/\(A2 v0)/\A3 v0) (k:∀ v0,A1 v0->A2 v0->A3 v0->G):G:=Exists.elim h fun v0 h0=>k v0 h0.1 h0.2.1 h0.2.2
theorem xG.{u0} {a0:Sort u0} {A1:a0->Prop} {A2:a0->Prop} {A3:a0->Prop} {A4:a0->Prop} {G:Prop} (h:∃ v0,(A1 v0)/\(A2 v0)/\(A3 v0)/\A4 v0) (k:∀ v0,A1 v0->A2 v0->A3 v0->A4 v0->G):G:=Exists.elim h fun v0 h0=>k v0 h0.1 h0.2.1 h0.2.2.1 h0.2.2.2
theorem xv.{u0} {a0:Sort u0} {A1:a0->Prop} {A2:a0->Prop} {A3:a0->Prop} {A4:a0->Prop} {A5:a0->Prop} {G:Prop} (h:∃ v0,(A1 v0)/\(A2 v0)/\(A3 v0)/\(A4 v0)/\A5 v0) (k:∀ v0,A1 v0->A2 v0->A3 v0->A4 v0->A5 v0->G):G:=Exists.elim h fun v0 h0=>k v0 h0.1 h0.2.1 h0.2.2.1 h0.2.2.2.1 h0.2.2.2.2
theorem xl.{u0,u1} {a0:Sort u0} {a1:Sort u1} {A2:a0->a1->Prop} {G:Prop} (h:∃ v0,∃ v1,A2 v0 v1) (k:∀ v0,∀ v1,A2 v0 v1->G):G:=Exists.elim h fun v0 h0=>Exists.elim h0 fun v1 h1=>k v0 v1 h1
theorem xi.{u0,u1} {a0:Sort u0} {a1:Sort u1} {A2:a0->a1->Prop} {A3:a0->a1->Prop} {G:Prop} (h:∃ v0,∃ v1,(A2 v0 v1)/\A3 v0 v1) (k:∀ v0,∀ v1,A2 v0 v1->A3 v0 v1->G):G:=Exists.elim h fun v0 h0=>Exists.elim h0 fun v1 h1=>k v0 v1 h1.1 h1.2
theorem xc.{u0,u1} {a0:Sort u0} {a1:Sort u1} {A2:a0->a1->Prop} {A3:a0->a1->Prop} {A4:a0->a1->Prop} {G:Prop} (h:∃ v0,∃ v1,(A2 v0 v1)/\(A3 v0 v1)/\A4 v0 v1) (k:∀ v0,∀ v1,A2 v0 v1->A3 v0 v1->A4 v0 v1->G):G:=Exists.elim h fun v0 h0=>Exists.elim h0 fun v1 h1=>k v0 v1 h1.1 h1.2.1 h1.2.2
theorem xu.{u0,u1} {a0:Sort u0} {a1:Sort u1} {A2:a0->a1->Prop} {A3:a0->a1->Prop} {A4:a0->a1->Prop} {A5:a0->a1->Prop} {G:Prop} (h:∃ v0,∃ v1,(A2 v0 v1)/\(A3 v0 v1)/\(A4 v0 v1)/\A5 v0 v1) (k:∀ v0,∀ v1,A2 v0 v1->A3 v0 v1->A4 v0 v1->A5 v0 v1->G):G:=Exists.elim h fun v0 h0=>Exists.elim h0 fun v1 h1=>k v0 v1 h1.1 h1.2.1 h1.2.2.1 h1.2.2.2
theorem xm.{u0,u1} {a0:Sort u0} {a1:Sort u1} {A2:a0->a1->Prop} {A3:a0->a1->Prop} {A4:a0->a1->Prop} {A5:a0->a1->Prop} {A6:a0->a1->Prop} {G:Prop} (h:∃ v0,∃ v1,(A2 v0 v1)/\(A3 v0 v1)/\(A4 v0 v1)/\(A5 v0 v1)/\A6 v0 v1) (k:∀ v0,∀ v1,A2 v0 v1->A3 v0 v1->A4 v0 v1->A5 v0 v1->A6 v0 v1->G):G:=Exists.elim h fun v0 h0=>Exists.elim h0 fun v1 h1=>k v0 v1 h1.1 h1.2.1 h1.2.2.1 h1.2.2.2.1 h1.2.2.2.2
theorem vc.{u0,u1} {a0:Sort u0} {a1:Sort u1} {A2:a0->a1->Prop} {A3:a0->a1->Prop} {A4:a0->a1->Prop} {A5:a0->a1->Prop} {A6:a0->a1->Prop} {A7:a0->a1->Prop} {G:Prop} (h:∃ v0,∃ v1,(A2 v0 v1)/\(A3 v0 v1)/\(A4 v0 v1)/\(A5 v0 v1)/\(A6 v0 v1)/\A7 v0 v1) (k:∀ v0,∀ v1,A2 v0 v1->A3 v0 v1->A4 v0 v1->A5 v0 v1->A6 v0 v1->A7 v0 v1->G):G:=Exists.elim h fun v0 h0=>Exists.elim h0 fun v1 h1=>k v0 v1 h1.1 h1.2.1 h1.2.2.1 h1.2.2.2.1 h1.2.2.2.2.1 h1.2.2.2.2.2
theorem xq.{u0,u1,u2} {a0:Sort u0} {a1:Sort u1} {a2:Sort u2} {A3:a0->a1->a2->Prop} {G:Prop} (h:∃ v0,∃ v1,∃ v2,A3 v0 v1 v2) (k:∀ v0,∀ v1,∀ v2,A3 v0 v1 v2->G):G:=Exists.elim h fun v0 h0=>Exists.elim h0 fun v1 h1=>Exists.elim h1 fun v2 h2=>k v0 v1 v2 h2
theorem xn.{u0,u1,u2} {a0:Sort u0} {a1:Sort u1} {a2:Sort u2} {A3:a0->a1->a2->Prop} {A4:a0->a1->a2->Prop} {G:Prop} (h:∃ v0,∃ v1,∃ v2,(A3 v0 v1 v2)/\A4 v0 v1 v2) (k:∀ v0,∀ v1,∀ v2,A3 v0 v1 v2->A4 v0 v1 v2->G):G:=Exists.elim h fun v0 h0=>Exists.elim h0 fun v1 h1=>Exists.elim h1 fun v2 h2=>k v0 v1 v2 h2.1 h2.2
theorem xw.{u0,u1,u2} {a0:Sort u0} {a1:Sort u1} {a2:Sort u2} {A3:a0->a1->a2->Prop} {A4:a0->a1->a2->Prop} {A5:a0->a1->a2->Prop} {G:Prop} (h:∃ v0,∃ v1,∃ v2,(A3 v0 v1 v2)/\(A4 v0 v1 v2)/\A5 v0 v1 v2) (k:∀ v0,∀ v1,∀ v2,A3 v0 v1 v2->A4 v0 v1 v2->A5 v0 v1 v2->G):G:=Exists.elim h fun v0 h0=>Exists.elim h0 fun v1 h1=>Exists.elim h1 fun v2 h2=>k v0 v1 v2 h2.1 h2.2.1 h2.2.2
theorem xo.{u0,u1,u2} {a0:Sort u0} {a1:Sort u1} {a2:Sort u2} {A3:a0->a1->a2->Prop} {A4:a0->a1->a2->Prop} {A5:a0->a1->a2->Prop} {A6:a0->a1->a2->Prop} {G:Prop} (h:∃ v0,∃ v1,∃ v2,(A3 v0 v1 v2)/\(A4 v0 v1 v2)/\(A5 v0 v1 v2)/\A6 v0 v1 v2) (k:∀ v0,∀ v1,∀ v2,A3 v0 v1 v2->A4 v0 v1 v2->A5 v0 v1 v2->A6 v0 v1 v2->G):G:=Exists.elim h fun v0 h0=>Exists.elim h0 fun v1 h1=>Exists.elim h1 fun v2 h2=>k v0 v1 v2 h2.1 h2.2.1 h2.2.2.1 h2.2.2.2
theorem xy.{u0,u1,u2} {a0:Sort u0} {a1:Sort u1} {a2:Sort u2} {A3:a0->a1->a2->Prop} {A4:a0->a1->a2->Prop} {A5:a0->a1->a2->Prop} {A6:a0->a1->a2->Prop} {A7:a0->a1->a2->Prop} {G:Prop} (h:∃ v0,∃ v1,∃ v2,(A3 v0 v1 v2)/\(A4 v0 v1 v2)/\(A5 v0 v1 v2)/\(A6 v0 v1 v2)/\A7 v0 v1 v2) (k:∀ v0,∀ v1,∀ v2,A3 v0 v1 v2->A4 v0 v1 v2->A5 v0 v1 v2->A6 v0 v1 v2->A7 v0 v1 v2->G):G:=Exists.elim h fun v0 h0=>Exists.elim h0 fun v1 h1=>Exists.elim h1 fun v2 h2=>k v0 v1 v2 h2.1 h2.2.1 h2.2.2.1 h2.2.2.2.1 h2.2.2.2.2
theorem vt.{u0,u1,u2,u3} {a0:Sort u0} {a1:Sort u1} {a2:Sort u2} {a3:Sort u3} {A4:a0->a1->a2->a3->Prop} {G:Prop} (h:∃ v0,∃ v1,∃ v2,∃ v3,A4 v0 v1 v2 v3) (k:∀ v0,∀ v1,∀ v2,∀ v3,A4 v0 v1 v2 v3->G):G:=Exists.elim h fun v0 h0=>Exists.elim h0 fun v1 h1=>Exists.elim h1 fun v2 h2=>Exists.elim h2 fun v3 h3=>k v0 v1 v2 v3 h3
theorem xB.{u0,u1,u2,u3} {a0:Sort u0} {a1:Sort u1} {a2:Sort u2} {a3:Sort u3} {A4:a0->a1->a2->a3->Prop} {A5:a0->a1->a2->a3->Prop} {G:Prop} (h:∃ v0,∃ v1,∃ v2,∃ v3,(A4 v0 v1 v2 v3)/\A5 v0 v1 v2 v3) (k:∀ v0,∀ v1,∀ v2,∀ v3,A4 v0 v1 v2 v3->A5 v0 v1 v2 v3->G):G:=Exists.elim h fun v0 h0=>Exists.elim h0 fun v1 h1=>Exists.elim h1 fun v2 h2=>Exists.elim h2 fun v3 h3=>k v0 v1 v2 v3 h3.1 h3.2
theorem vw.{u0,u1,u2,u3} {a0:Sort u0} {a1:Sort u1} {a2:Sort u2} {a3:Sort u3} {A4:a0->a1->a2->a3->Prop} {A5:a0->a1->a2->a3->Prop} {A6:a0->a1->a2->a3->Prop} {G:Prop} (h:∃ v0,∃ v1,∃ v2,∃ v3,(A4 v0 v1 v2 v3)/\(A5 v0 v1 v2 v3)/\A6 v0 v1 v2 v3) (k:∀ v0,∀ v1,∀ v2,∀ v3,A4 v0 v1 v2 v3->A5 v0 v1 v2 v3->A6 v0 v1 v2 v3->G):G:=Exists.elim h fun v0 h0=>Exists.elim h0 fun v1 h1=>Exists.elim h1 fun v2 h2=>Exists.elim h2 fun v3 h3=>k v0 v1 v2 v3 h3.1 h3.2.1 h3.2.2
theorem xD.{u0,u1,u2,u3} {a0:Sort u0} {a1:Sort u1} {a2:Sort u2} {a3:Sort u3} {A4:a0->a1->a2->a3->Prop} {A5:a0->a1->a2->a3->Prop} {A6:a0->a1->a2->a3->Prop} {A7:a0->a1->a2->a3->Prop} {A8:a0->a1->a2->a3->Prop} {G:Prop} (h:∃ v0,∃ v1,∃ v2,∃ v3,(A4 v0 v1 v2 v3)/\(A5 v0 v1 v2 v3)/\(A6 v0 v1 v2 v3)/\(A7 v0 v1 v2 v3)/\A8 v0 v1 v2 v3) (k:∀ v0,∀ v1,∀ v2,∀ v3,A4 v0 v1 v2 v3->A5 v0 v1 v2 v3->A6 v0 v1 v2 v3->A7 v0 v1 v2 v3->A8 v0 v1 v2 v3->G):G:=Exists.elim h fun v0 h0=>Exists.elim h0 fun v1 h1=>Exists.elim h1 fun v2 h2=>Exists.elim h2 fun v3 h3=>k v0 v1 v2 v3 h3.1 h3.2.1 h3.2.2.1 h3.2.2.2.1 h3.2.2.2.2
theorem vC.{u0,u1,u2,u3} {a0:Sort u0} {a1:Sort u1} {a2:Sort u2} {a3:Sort u3} {A4:a0->a1->a2->a3->Prop} {A5:a0->a1->a2->a3->Prop} {A6:a0->a1->a2->a3->Prop} {A7:a0->a1->a2->a3->Prop} {A8:a0->a1->a2->a3->Prop} {A9:a0->a1->a2->a3->Prop} {G:Prop} (h:∃ v0,∃ v1,∃ v2,∃ v3,(A4 v0 v1 v2 v3)/\(A5 v0 v1 v2 v3)/\(A6 v0 v1 v2 v3)/\(A7 v0 v1 v2 v3)/\(A8 v0 v1 v2 v3)/\A9 v0 v1 v2 v3) (k:∀ v0,∀ v1,∀ v2,∀ v3,A4 v0 v1 v2 v3->A5 v0 v1 v2 v3->A6 v0 v1 v2 v3->A7 v0 v1 v2 v3->A8 v0 v1 v2 v3->A9 v0 v1 v2 v3->G):G:=Exists.elim h fun v0 h0=>Exists.elim h0 fun v1 h1=>Exists.elim h1 fun v2 h2=>Exists.elim h2 fun v3 h3=>k v0 v1 v2 v3 h3.1 h3.2.1 h3.2.2.1 h3.2.2.2.1 h3.2.2.2.2.1 h3.2.2.2.2.2
theorem vk.{u0,u1,u2,u3} {a0:Sort u0} {a1:Sort u1} {a2:Sort u2} {a3:Sort u3} {A4:a0->a1->a2->a3->Prop} {A5:a0->a1->a2->a3->Prop} {A6:a0->a1->a2->a3->Prop} {A7:a0->a1->a2->a3->Prop} {A8:a0->a1->a2->a3->Prop} {A9:a0->a1->a2->a3->Prop} {A10:a0->a1->a2->a3->Prop} {G:Prop} (h:∃ v0,∃ v1,∃ v2,∃ v3,(A4 v0 v1 v2 v3)/\(A5 v0 v1 v2 v3)/\(A6 v0 v1 v2 v3)/\(A7 v0 v1 v2 v3)/\(A8 v0 v1 v2 v3)/\(A9 v0 v1 v2 v3)/\A10 v0 v1 v2 v3) (k:∀ v0,∀ v1,∀ v2,∀ v3,A4 v0 v1 v2 v3->A5 v0 v1 v2 v3->A6 v0 v1 v2 v3->A7 v0 v1 v2 v3->A8 v0 v1 v2 v3->A9 v0 v1 v2 v3->A10 v0 v1 v2 v3->G):G:=Exists.elim h fun v0 h0=>Exists.elim h0 fun v1 h1=>Exists.elim h1 fun v2 h2=>Exists.elim h2 fun v3 h3=>k v0 v1 v2 v3 h3.1 h3.2.1 h3.2.2.1 h3.2.2.2.1 h3.2.2.2.2.1 h3.2.2.2.2.2.1 h3.2.2.2.2.2.2
theorem xH.{u0,u1,u2,u3} {a0:Sort u0} {a1:Sort u1} {a2:Sort u2} {a3:Sort u3} {A4:a0->a1->a2->a3->Prop} {A5:a0->a1->a2->a3->Prop} {A6:a0->a1->a2->a3->Prop} {A7:a0->a1->a2->a3->Prop} {A8:a0->a1->a2->a3->Prop} {A9:a0->a1->a2->a3->Prop} {A10:a0->a1->a2->a3->Prop} {A11:a0->a1->a2->a3->Prop} {A12:a0->a1->a2->a3->Prop} {A13:a0->a1->a2->a3->Prop} {G:Prop} (h:∃ v0,∃ v1,∃ v2,∃ v3,(A4 v0 v1 v2 v3)/\(A5 v0 v1 v2 v3)/\(A6 v0 v1 v2 v3)/\(A7 v0 v1 v2 v3)/\(A8 v0 v1 v2 v3)/\(A9 v0 v1 v2 v3)/\(A10 v0 v1 v2 v3)/\(A11 v0 v1 v2 v3)/\(A12 v0 v1 v2 v3)/\A13 v0 v1 v2 v3) (k:∀ v0,∀ v1,∀ v2,∀ v3,A4 v0 v1 v2 v3->A5 v0 v1 v2 v3->A6 v0 v1 v2 v3->A7 v0 v1 v2 v3->A8 v0 v1 v2 v3->A9 v0 v1 v2 v3->A10 v0 v1 v2 v3->A11 v0 v1 v2 v3->A12 v0 v1 v2 v3->A13 v0 v1 v2 v3->G):G:=Exists.elim h fun v0 h0=>Exists.elim h0 fun v1 h1=>Exists.elim h1 fun v2 h2=>Exists.elim h2 fun v3 h3=>k v0 v1 v2 v3 h3.1 h3.2.1 h3.2.2.1 h3.2.2.2.1 h3.2.2.2.2.1 h3.2.2.2.2.2.1 h3.2.2.2.2.2.2.1 h3.2.2.2.2.2.2.2.1 h3.2.2.2.2.2.2.2.2.1 h3.2.2.2.2.2.2.2.2.2
theorem vz.{u0,u1,u2,u3,u4} {a0:Sort u0} {a1:Sort u1} {a2:Sort u2} {a3:Sort u3} {a4:Sort u4} {A5:a0->a1->a2->a3->a4->Prop} {G:Prop} (h:∃ v0,∃ v1,∃ v2,∃ v3,∃ v4,A5 v0 v1 v2 v3 v4) (k:∀ v0,∀ v1,∀ v2,∀ v3,∀ v4,A5 v0 v1 v2 v3 v4->G):G:=Exists.elim h fun v0 h0=>Exists.elim h0 fun v1 h1=>Exists.elim h1 fun v2 h2=>Exists.elim h2 fun v3 h3=>Exists.elim h3 fun v4 h4=>k v0 v1 v2 v3 v4 h4
theorem vh.{u0,u1,u2,u3,u4} {a0:Sort u0} {a1:Sort u1} {a2:Sort u2} {a3:Sort u3} {a4:Sort u4} {A5:a0->a1->a2->a3->a4->Prop} {A6:a0->a1->a2->a3->a4->Prop} {G:Prop} (h:∃ v0,∃ v1,∃ v2,∃ v3,∃ v4,(A5 v0 v1 v2 v3 v4)/\A6 v0 v1 v2 v3 v4) (k:∀ v0,∀ v1,∀ v2,∀ v3,∀ v4,A5 v0 v1 v2 v3 v4->A6 v0 v1 v2 v3 v4->G):G:=Exists.elim h fun v0 h0=>Exists.elim h0 fun v1 h1=>Exists.elim h1 fun v2 h2=>Exists.elim h2 fun v3 h3=>Exists.elim h3 fun v4 h4=>k v0 v1 v2 v3 v4 h4.1 h4.2
theorem vn.{u0,u1,u2,u3,u4} {a0:Sort u0} {a1:Sort u1} {a2:Sort u2} {a3:Sort u3} {a4:Sort u4} {A5:a0->a1->a2->a3->a4->Prop} {A6:a0->a1->a2->a3->a4->Prop} {A7:a0->a1->a2->a3->a4->Prop} {G:Prop} (h:∃ v0,∃ v1,∃ v2,∃ v3,∃ v4,(A5 v0 v1 v2 v3 v4)/\(A6 v0 v1 v2 v3 v4)/\A7 v0 v1 v2 v3 v4) (k:∀ v0,∀ v1,∀ v2,∀ v3,∀ v4,A5 v0 v1 v2 v3 v4->A6 v0 v1 v2 v3 v4->A7 v0 v1 v2 v3 v4->G):G:=Exists.elim h fun v0 h0=>Exists.elim h0 fun v1 h1=>Exists.elim h1 fun v2 h2=>Exists.elim h2 fun v3 h3=>Exists.elim h3 fun v4 h4=>k v0 v1 v2 v3 v4 h4.1 h4.2.1 h4.2.2
theorem vB.{u0,u1,u2,u3,u4,u5} {a0:Sort u0} {a1:Sort u1} {a2:Sort u2} {a3:Sort u3} {a4:Sort u4} {a5:Sort u5} {A6:a0->a1->a2->a3->a4->a5->Prop} {G:Prop} (h:∃ v0,∃ v1,∃ v2,∃ v3,∃ v4,∃ v5,A6 v0 v1 v2 v3 v4 v5) (k:∀ v0,∀ v1,∀ v2,∀ v3,∀ v4,∀ v5,A6 v0 v1 v2 v3 v4 v5->G):G:=Exists.elim h fun v0 h0=>Exists.elim h0 fun v1 h1=>Exists.elim h1 fun v2 h2=>Exists.elim h2 fun v3 h3=>Exists.elim h3 fun v4 h4=>Exists.elim h4 fun v5 h5=>k v0 v1 v2 v3 v4 v5 h5
theorem vf.{u0,u2} {a0:Sort u0} {a2:Sort u2} {A1:a0->Prop} {A3:a0->a2->Prop} {G:Prop} (h:∃ v0,(A1 v0)/\(∃ v2,A3 v0 v2)) (k:∀ v0,A1 v0->∀ v2,A3 v0 v2->G):G:=Exists.elim h fun v0 h0=>Exists.elim h0.2 fun v2 h2=>k v0 h0.1 v2 h2
theorem xC.{u1} {a1:Sort u1} {A0:Prop} {A2:a1->Prop} {A3:a1->Prop} {G:Prop} (h:(A0)/\(∃ v1,(A2 v1)/\A3 v1)) (k:A0->∀ v1,A2 v1->A3 v1->G):G:=Exists.elim h.2 fun v1 h1=>k h.1 v1 h1.1 h1.2
theorem xE.{u2} {a2:Sort u2} {A0:Prop} {A1:Prop} {A3:a2->Prop} {G:Prop} (h:(A0)/\(A1)/\(∃ v2,A3 v2)) (k:A0->A1->∀ v2,A3 v2->G):G:=Exists.elim h.2.2 fun v2 h2=>k h.1 h.2.1 v2 h2
theorem vm.{u0,u2} {a0:Sort u0} {a2:Sort u2} {A1:a0->Prop} {A3:a0->a2->Prop} {A4:a0->a2->Prop} {G:Prop} (h:∃ v0,(A1 v0)/\(∃ v2,(A3 v0 v2)/\A4 v0 v2)) (k:∀ v0,A1 v0->∀ v2,A3 v0 v2->A4 v0 v2->G):G:=Exists.elim h fun v0 h0=>Exists.elim h0.2 fun v2 h2=>k v0 h0.1 v2 h2.1 h2.2
theorem vd.{u0,u3} {a0:Sort u0} {a3:Sort u3} {A1:a0->Prop} {A2:a0->Prop} {A4:a0->a3->Prop} {G:Prop} (h:∃ v0,(A1 v0)/\(A2 v0)/\(∃ v3,A4 v0 v3)) (k:∀ v0,A1 v0->A2 v0->∀ v3,A4 v0 v3->G):G:=Exists.elim h fun v0 h0=>Exists.elim h0.2.2 fun v3 h3=>k v0 h0.1 h0.2.1 v3 h3
theorem xz.{u1,u2} {a1:Sort u1} {a2:Sort u2} {A0:Prop} {A3:a1->a2->Prop} {A4:a1->a2->Prop} {G:Prop} (h:(A0)/\(∃ v1,∃ v2,(A3 v1 v2)/\A4 v1 v2)) (k:A0->∀ v1,∀ v2,A3 v1 v2->A4 v1 v2->G):G:=Exists.elim h.2 fun v1 h1=>Exists.elim h1 fun v2 h2=>k h.1 v1 v2 h2.1 h2.2
theorem xF.{u1} {a1:Sort u1} {A0:Prop} {A2:a1->Prop} {A3:a1->Prop} {A4:a1->Prop} {G:Prop} (h:(A0)/\(∃ v1,(A2 v1)/\(A3 v1)/\A4 v1)) (k:A0->∀ v1,A2 v1->A3 v1->A4 v1->G):G:=Exists.elim h.2 fun v1 h1=>k h.1 v1 h1.1 h1.2.1 h1.2.2
theorem vg.{u2} {a2:Sort u2} {A0:Prop} {A1:Prop} {A3:a2->Prop} {A4:a2->Prop} {G:Prop} (h:(A0)/\(A1)/\(∃ v2,(A3 v2)/\A4 v2)) (k:A0->A1->∀ v2,A3 v2->A4 v2->G):G:=Exists.elim h.2.2 fun v2 h2=>k h.1 h.2.1 v2 h2.1 h2.2
theorem vD.{u0,u3} {a0:Sort u0} {a3:Sort u3} {A1:a0->Prop} {A2:a0->Prop} {A4:a0->a3->Prop} {A5:a0->a3->Prop} {G:Prop} (h:∃ v0,(A1 v0)/\(A2 v0)/\(∃ v3,(A4 v0 v3)/\A5 v0 v3)) (k:∀ v0,A1 v0->A2 v0->∀ v3,A4 v0 v3->A5 v0 v3->G):G:=Exists.elim h fun v0 h0=>Exists.elim h0.2.2 fun v3 h3=>k v0 h0.1 h0.2.1 v3 h3.1 h3.2
theorem xA.{u1,u2} {a1:Sort u1} {a2:Sort u2} {A0:Prop} {A3:a1->a2->Prop} {A4:a1->a2->Prop} {A5:a1->a2->Prop} {G:Prop} (h:(A0)/\(∃ v1,∃ v2,(A3 v1 v2)/\(A4 v1 v2)/\A5 v1 v2)) (k:A0->∀ v1,∀ v2,A3 v1 v2->A4 v1 v2->A5 v1 v2->G):G:=Exists.elim h.2 fun v1 h1=>Exists.elim h1 fun v2 h2=>k h.1 v1 v2 h2.1 h2.2.1 h2.2.2
theorem vo.{u0,u1,u4} {a0:Sort u0} {a1:Sort u1} {a4:Sort u4} {A2:a0->a1->Prop} {A3:a0->a1->Prop} {A5:a0->a1->a4->Prop} {A6:a0->a1->a4->Prop} {G:Prop} (h:∃ v0,∃ v1,(A2 v0 v1)/\(A3 v0 v1)/\(∃ v4,(A5 v0 v1 v4)/\A6 v0 v1 v4)) (k:∀ v0,∀ v1,A2 v0 v1->A3 v0 v1->∀ v4,A5 v0 v1 v4->A6 v0 v1 v4->G):G:=Exists.elim h fun v0 h0=>Exists.elim h0 fun v1 h1=>Exists.elim h1.2.2 fun v4 h4=>k v0 v1 h1.1 h1.2.1 v4 h4.1 h4.2
theorem vq.{u0,u2} {a0:Sort u0} {a2:Sort u2} {A1:a0->Prop} {A3:a0->a2->Prop} {A4:a0->a2->Prop} {A5:a0->a2->Prop} {A6:a0->a2->Prop} {G:Prop} (h:∃ v0,(A1 v0)/\(∃ v2,(A3 v0 v2)/\(A4 v0 v2)/\(A5 v0 v2)/\A6 v0 v2)) (k:∀ v0,A1 v0->∀ v2,A3 v0 v2->A4 v0 v2->A5 v0 v2->A6 v0 v2->G):G:=Exists.elim h fun v0 h0=>Exists.elim h0.2 fun v2 h2=>k v0 h0.1 v2 h2.1 h2.2.1 h2.2.2.1 h2.2.2.2
theorem vA.{u0,u1,u4} {a0:Sort u0} {a1:Sort u1} {a4:Sort u4} {A2:a0->a1->Prop} {A3:a0->a1->Prop} {A5:a0->a1->a4->Prop} {A6:a0->a1->a4->Prop} {A7:a0->a1->a4->Prop} {G:Prop} (h:∃ v0,∃ v1,(A2 v0 v1)/\(A3 v0 v1)/\(∃ v4,(A5 v0 v1 v4)/\(A6 v0 v1 v4)/\A7 v0 v1 v4)) (k:∀ v0,∀ v1,A2 v0 v1->A3 v0 v1->∀ v4,A5 v0 v1 v4->A6 v0 v1 v4->A7 v0 v1 v4->G):G:=Exists.elim h fun v0 h0=>Exists.elim h0 fun v1 h1=>Exists.elim h1.2.2 fun v4 h4=>k v0 v1 h1.1 h1.2.1 v4 h4.1 h4.2.1 h4.2.2
open Option renaming bind_eq_some_iff→Za,map_eq_some_iff→Zb,bind_some→Yd,map_some→Yq,bind_none→Uu,isSome_iff_exists→Vm,getD_some→Gw,getD_none→Gx,map_none→G4
open PySem renaming wpAny_bind→Zc,wpAny_pure→Zg,wpAny_holding→Yf,sizeLine_eq→Yr,codeAny_builtin→We,plainId_quiet→Wt,wpAny_updateSeq→W1,wpAny_Call_Name_kw→Qa,builtinLookup_eq_fast→Qb,sizeLine_eq→Qj,wpAny_call_entry→Qm,wpAny_specialOf→Qs,wpAny_passesOwn→Qt,wpAny_truthy_bool→Qv,wpAny_setState_of→Qw,wpAny_newObj_type→Qx,mem_of_lookup→Qy,wpAny_seqItems→Q9,typeLookup_type→Ki,wpAny_askSetting→Kq,wpAny_mono→Ky,wpAny_pyIter_list→Jh,wpAny_standAt→Jm,wpAny_letGo→Jn,wpAny_field→Jo,wpAny_isInstance→Jy,wpAny_forIn_list→Jz,wpAny_typeOf→Uf,codeAny_mono→Ug,wpAny_tryCatch→Us,isSubtype_type→Ut,wpAny_attempt→U6,wpAny_rule→Vi,wpAny_eqBool_int→Vx,wpAny_execs_nil→V4,wpAny_setField→Gc,wpAny_comprehension_free→Gn,call_meets→Go,wpAny_newList→Gs,wpAny_pyNext_list_item→Gz,wpAny_nextOf_list_item→G0,wpAny_pyNext_list_end→G9,wpAny_eqIsQuiet_tuple→Ba,seqIndex_neg→Bb
open List renaming length_map→Zd,getElem?_eq_getElem→Ze,mem_cons→Zi,length_cons→Zj,getElem?_map→Zk,getElem?_eq_some_iff→Zl,mem_of_getElem?→Zn,length_append→Zq,size_toArray→Zr,mem_singleton→Zt,getElem?_append_right→Zu,map_cons→Zv,mem_map→Zz,getD_eq_getElem?_getD→Z0,getElem?_append_left→Z2,mem_map_of_mem→Z6,length_nil→Yb,getElem?_of_mem→Yg,map_append→Yk,mem_cons_of_mem→Yl,getElem?_set_ne→Ym,mem_append_right→Yo,length_drop→Ys,length_reverse→Yv,mem_append→Yw,append_assoc→Yy,getElem?_set_self→Y4,length_replicate→Y5,reverse_cons→Y6,mem_cons_self→Y9,nodup_cons→Wa,nil_append→Wb,length_set→Wc,mem_range→Wi,pairwise_cons→Wj,append_nil→Wk,map_nil→Wn,drop_eq_getElem_cons→Wp,getElem?_eq_none→Wr,length_dropLast→Ww,pairwise_map→Wy,not_mem_nil→W2,lookup_cons→W3,length_take→W4,map_map→W6,all_cons→W7,mem_append_left→Qc,getElem?_replicate→Qf,dropLast_concat_getLast→Qk,dropLast_eq_take→Qn,getElem_inj→Qz,cons_append→Q0,pairwise_singleton→Ka,mem_filterMap→Kb,getElem?_cons_succ→Kc,length_range→Kh,take_append_drop→Kj,filterMap_cons→Kp,getElem?_drop→Ku,append_of_mem→Kv,pairwise_iff_getElem→K1,getElem?_zip_eq_some→K2,getElem?_take_of_lt→K8,map_drop→Ja,getLast?_cons_cons→Jb,mem_reverse→Jd,take_of_length_le→Jf,getElem?_dropLast→Jg,mem_filter→Ji,dropLast_sublist→Jj,mem_of_mem_drop→J0,mem_of_getLast?→J1,nodup_nil→Ua,drop_zero→Ub,map_take→Ui,findIdx?_eq_some_iff_getElem→Uj,nodup_append→Uv,getLast?_map→Uw,reverse_nil→U1,getElem_map→U2,all_eq_true→U3,of_mem_zip→Vd,length_zip→Ve,forIn_cons→Vf,foldl_cons→Vg,nodup_iff_pairwise_ne→Vo,exists_cons_of_ne_nil→Vp,mem_or_eq_of_mem_set→Vv,head?_map→Vw,length_eq_zero_iff→Vz,eraseIdx_cons_succ→V0,pairwise_reverse→V8,length_singleton→V9,pairwise_append→Gg,getLast?_concat→Gh,dropLast_subset→Gi,dropLast_concat→Gj,map_congr_left→Gp,filter_sublist→Gq,getElem?_take→Gy,mem_of_head?→G6,ext_getElem?→G7,nodup_range→Bj,getElem_mem→Bk,drop_length→Bl
open PySem.Heap renaming get?_push_of_some→Zf,lt_size→Zo,get?_push_size→Z3,get?_update_other→Z9,get?_update_self→Yi,size_update→Km,size_push→K5,get?_none_of_le→J3
open Nat renaming le_refl→Zh,lt_of_lt_of_le→Zp,ne_of_lt→Z1,mod_eq_of_lt→Z5,ne_of_gt→Z8,zero_le→Ya,le_trans→Y3,pow_le_pow_right→Y8,zero_add→Wf,lt_or_ge→Wg,eq_zero_or_pos→Wm,lt_succ_of_lt→Wo,add_sub_cancel→Wu,mod_lt→Qi,add_mod_right→Qp,lt_succ_self→Q6,lt_of_le_of_lt→Kf,le_of_lt→Kk,mod_self→K0,sub_self→Js,pow_succ→Jt,mod_add_mod→Ju,min_eq_left→Jv,le_of_succ_le→Uz,add_comm→U0,succ_ne_self→U9,le_add_right→Va,add_mod→Vn,div_div_eq_div_mul→V7,succ_pos→Ge,sub_zero→Gf,mod_eq_sub_mod→G5,lt_trichotomy→Bg,le_of_lt_succ→Bh
open Bool renaming and_eq_true→Zm,false_ne_true→Zw,false_eq_true→Zx,not_true→Jc,or_eq_true→Jk,eq_iff_iff→Jl,not_false→Ue,and_self→Ul,true_and→V2,and_true→V3,beq_eq_decide_eq→Ga
open Array renaming getElem?_eq_getElem→Zs,getElem?_toList→Zy,length_toList→Z4,getElem?_eq_some_iff→Yu,getElem_toList→W9,toList_push→Kg,toList_inj→Kl,forIn_toList→Kt,mem_toList_iff→Gb,append_assoc→Gr,size_push→Bn
open Rat renaming intCast_mul→Z7,mul_nonneg→Yz,le_of_lt→Y0,mul_pos→Y7,num_divInt_den→Wl,mul_lt_mul_right→Wx,intCast_lt_intCast→Wz,intCast_sub→Qo,le_refl→Kr,divInt_add_divInt→Jq,mul_div_cancel→Um,inv_mul_cancel→Uo,divInt_eq_div→Uy,num_intCast→Vj,intCast_add→Vk,divInt_eq_divInt_iff→Vy,mul_assoc→V5,intCast_le_intCast→V6,one_mul→Gu,inv_pos→Gv,sub_eq_add_neg→G3
open Int renaming emod_nonneg→Yc,mul_fdiv_cancel_left→Ye,emod_lt_of_pos→Yj,natAbs_natCast→Yt,mul_ne_zero→Yx,le_of_lt→Ws,mul_nonpos_of_nonneg_of_nonpos→W0,gcd_eq_one_iff→W8,gcd_dvd_right→Qd,dvd_trans→Qg,toNat_natCast→Qq,fmod_eq_emod_of_nonneg→Qr,gcd_mul_right_right_of_gcd_eq_one→Qu,natAbs_mul→Q4,mul_nonneg→Q5,mul_comm→Q7,dvd_mul_of_dvd_right→Q8,gcd_dvd_left→Ko,mul_pos→Ks,fdiv_eq_ediv_of_nonneg→Kw,eq_of_mul_eq_mul_right→Kx,natCast_nonneg→K3,lt_or_eq_of_le→K4,le_refl→Je,zero_mul→Jw,mul_eq_zero→Jx,not_lt→J2,mul_dvd_mul_left→Uc,mul_nonpos_of_nonpos_of_nonneg→Uk,mul_assoc→Up,ne_of_gt→U4,mul_le_mul_of_nonneg_right→U5,mul_one→Vq,dvd_coe_gcd→Vr,zero_dvd→Gk,add_zero→Gm,natAbs_add_le→Bm
open Option.some renaming inj→Yh
open Classical renaming byContradiction→Yn
open PySem.Around renaming under_plainId→Yp,in1_units→K9
open PyProof.Rows renaming callWith_type1→Wd,listUpdate_at→Jp,callWith_builtin1→Jr,assignInOrder_cons→U7,subscriptTail_builtinR→G1,listItems_at→Bc
open Ne renaming symm→Wh
open PySem.F renaming plain_extend_loop→Wq,plain_min_loop→Ql,called_set→Ke,slot_zip_next→Ud,entry_extend_loop→Uq,plainAttrs_list→Vb,slot_list_index→Vl,entry_min_loop→Vs
open PySem.Heap.SameBut renaming update→Wv
open Prod renaming ext→W5
open PySem.SetTable renaming insertAt_perm→Qe,toList_insertAt→U8
open PyProof.Rows.F renaming plain_set_update_loop→Qh,entry_set_update_loop→K7
open List.Perm renaming refl→Kd
open PySem.W renaming kia_one→Kn,cellsFrom_some→Vu,mg_of→Be
open PySem.Obj renaming data_mapFields→Kz,isFreed_of_fields→Gd,cls_mapFields→Bf
open PySem.Value renaming isInt_shape→K6
open PySem.Calls renaming spliced_cons→Uh,spliced_nil→Ur,Name_function_global→Vh,callWith_builtin→V1
open PySem.IsTupleKey renaming inj→Ux
open PySem.AutoSeq1 renaming wpAny_loadPart'→Vc
open PySem.Walks renaming list→Vt
open PySem.SeqAt renaming eqAt_reads→G2
open Decidable renaming em→G8
namespace L2
open PySem PySem.Spec PyProof.Rows
noncomputable abbrev Key:=Sum Int Str
noncomputable def keyIs:Key->Value->Bool
 | .inl k,v=>Value.isInt k v
 | .inr x,v=>Value.isStrOf x v
noncomputable def keyH (w:World):Key->Int
 | .inl k=>hashInt k
 | .inr x=>hashStr w x
theorem zai:∀ {k:Key} {v:Value},keyIs k v=true->(∃ i t,k=Sum.inl i/\v=Value.int i t)\/(∃ x t,k=Sum.inr x/\v=Value.str x t)
 | .inl i,v,h=>by
  refine xb (K6 (k:=i) (v:=v) h) fun t e=>?_;exact .inl ⟨i,t,rfl,e⟩
 | .inr x,v,h=>by
  refine xb (Value.isStrOf_shape (x:=x) (v:=v) h) fun t e=>?_;exact .inr ⟨x,t,rfl,e⟩
theorem key_ll (a b:Int):decide ((Sum.inl a:Key)=Sum.inl b)=(a == b):=by
 by_cases e:a=b
 ·subst e;simp
 ·have h:¬ (Sum.inl a:Key)=Sum.inl b:=fun q=>e (Sum.inl.inj q)
  rw [decide_eq_false h];exact (beq_eq_false_iff_ne.mpr e).symm
theorem key_rr (a b:Str):decide ((Sum.inr a:Key)=Sum.inr b)=decide (a=b):=by
 by_cases e:a=b
 ·subst e;simp
 ·have h:¬ (Sum.inr a:Key)=Sum.inr b:=fun q=>e (Sum.inr.inj q)
  rw [decide_eq_false h,decide_eq_false e]
theorem key_lr (a:Int) (b:Str):decide ((Sum.inl a:Key)=Sum.inr b)=false:=decide_eq_false (fun q=>nomatch q)
theorem key_rl (a:Str) (b:Int):decide ((Sum.inr a:Key)=Sum.inl b)=false:=decide_eq_false (fun q=>nomatch q)
noncomputable def zwm (prog:Program) (w:World):PySem.KeyKind prog w Key where
 is:=keyIs
 hash:=keyH w
 inj:=fun v a b ha hb=>by
  rcases zai ha with⟨i,t,rfl,rfl⟩ | ⟨x,t,rfl,rfl⟩
  ·rcases zai hb with⟨j,u,rfl,e⟩ | ⟨y,u,rfl,e⟩
   ·injection e with e1 _;rw [e1]
   ·exact nomatch e
  ·rcases zai hb with⟨j,u,rfl,e⟩ | ⟨y,u,rfl,e⟩
   ·exact nomatch e
   ·injection e with e1 _;rw [e1]
 byValue:=fun k v h=>by
  rcases zai h with⟨i,t,rfl,rfl⟩ | ⟨x,t,rfl,rfl⟩ <;> rfl
 pyHash:=fun hv h=>by
  rcases zai hv with⟨i,t,rfl,rfl⟩ | ⟨x,t,rfl,rfl⟩
  ·exact wpAny_pyHash_int h
  ·exact wpAny_pyHash_str h
 eqBool:=fun hu hv h=>by
  rcases zai hu with⟨i,t,rfl,rfl⟩ | ⟨x,t,rfl,rfl⟩
  ·rcases zai hv with⟨j,u,rfl,rfl⟩ | ⟨y,u,rfl,rfl⟩
   ·rw [key_ll] at h;exact Vx h
   ·rw [key_lr] at h;exact SeqAt.EqAt.int_str i t y u _ _ _ _ h
  ·rcases zai hv with⟨j,u,rfl,rfl⟩ | ⟨y,u,rfl,rfl⟩
   ·rw [key_rl] at h;exact SeqAt.EqAt.str_int x t j u _ _ _ _ h
   ·rw [key_rr] at h;exact wpAny_eqBool_str h
 «strs» := fun k x t v h=>by
  rcases zai h with⟨i,u,rfl,e⟩ | ⟨y,u,rfl,e⟩
  ·exact nomatch e
  ·injection e with e1 _
   subst e1;cases v <;> rfl
end L2
namespace L2
open PySem PySem.Spec PyProof.Rows
set_option genInjectivity true in
inductive V where
 | non | bl (b:Bool) | int (i:Int) | str (x:Str) | byt (b:Array UInt8) | flt (b:UInt64) | ref (a:Addr) | ty (n:String)
 deriving DecidableEq
noncomputable def RelV:V->Value->Prop
 | .non,u=>u=Value.none
 | .bl b,u=>u=Value.bool b
 | .int i,u=>∃ t,u=Value.int i t
 | .str x,u=>∃ t,u=Value.str x t
 | .byt b,u=>∃ t,u=Value.bytes b t
 | .flt b,u=>∃ t,u=Value.float b t
 | .ref a,u=>u=Value.ref a
 | .ty n,u=>u=Value.type n
noncomputable abbrev Vals:List V->List Value->Prop:=Paired RelV
theorem Vals.length {xs:List V} {us:List Value} (r:Vals xs us):xs.length=us.length:=Paired.length r
theorem Vals.get:∀ {xs:List V} {us:List Value} {i:Nat} {x:V},Vals xs us->xs[i]? = some x->∃ u,us[i]? = some u/\RelV x u
 | _,_,_,_,.nil,e=>by simp at e
 | _,_,0,_,.cons r _,e=>by simp at e;subst e;exact⟨_,rfl,r⟩
 | _,_,i+1,x,.cons _ t,e=>by
  refine xa (Vals.get (i:=i) (x:=x) t (by simpa using e)) fun u h1 h2=>?_;exact⟨u,by simpa using h1,h2⟩
theorem Vals.set {x:V} {u:Value} (r:RelV x u):∀ {xs:List V} {us:List Value} (i:Nat),Vals xs us->Vals (xs.set i x) (us.set i u)
 | _,_,_,.nil=>.nil
 | _,_,0,.cons _ t=>.cons r t
 | _,_,i+1,.cons q t=>.cons q (Vals.set r i t)
theorem Vals.append:∀ {xs ys:List V} {us ws:List Value},Vals xs us->Vals ys ws->Vals (xs++ys) (us++ws)
 | _,_,_,_,.nil,s=>s
 | _,_,_,_,.cons r t,s=>.cons r (Vals.append t s)
theorem Vals.take:∀ {xs:List V} {us:List Value} (n:Nat),Vals xs us->Vals (xs.take n) (us.take n)
 | _,_,0,_=>.nil
 | _,_,_+1,.nil=>.nil
 | _,_,n+1,.cons r t=>.cons r (Vals.take n t)
theorem Vals.drop:∀ {xs:List V} {us:List Value} (n:Nat),Vals xs us->Vals (xs.drop n) (us.drop n)
 | _,_,0,r=>r
 | _,_,_+1,.nil=>.nil
 | _,_,n+1,.cons _ t=>Vals.drop n t
noncomputable def RelO:Option V->Option Value->Prop
 | some v,some u=>RelV v u
 | none,none=>True
 | _,_=>False
noncomputable def KV {κ:Type}:List (κ×V)->List (κ×Value)->Prop:=Paired fun (p:κ×V) (q:κ×Value)=>p.1=q.1/\RelV p.2 q.2
noncomputable def kV:Key->V
 | .inl i=>.int i
 | .inr x=>.str x
inductive HO where
  | lst (xs:List V)
  | tup (xs:List V)
  | dK (kvs:List (Key×V)) | dT (kvs:List (List Key×V))
  | set (S:Int->Bool) (n:Nat)
  | ins (C dx:Addr) (fs:List (Str×V))
  | own (x:Addr)
  | xd (fs:List (Str×V))
  | met (f x:Addr)
  | rng (lo hi:Int)
  | frz (o:Obj) (u:HO)
  | tbl (ps:Array Value)
  | ext (φ:Heap->Prop)
noncomputable abbrev Hp:=Addr->Option HO
noncomputable def upd (H:Hp) (a:Addr) (o:HO):Hp:=fun b=>if b=a then some o else H b
theorem Bz {H:Hp} {a:Addr} {o:HO}:upd H a o a=some o:=by unfold upd;rw [if_pos rfl]
theorem B3 {H:Hp} {a b:Addr} {o:HO} (h:b≠a):upd H a o b=H b:=by unfold upd;rw [if_neg h]
theorem zcm {H:Hp} {a b:Addr} {o:HO} (h:H a=some o) (h':H b=none):a≠b:=by
 intro e;subst e;rw [h] at h';cases h'
section
variable (P:Program) (w:World)
noncomputable def ObjOk (H:Hp) (h:Heap) (a:Addr):HO->Prop
 | .lst xs=>xs.length<=sizeLine/\∃ (its:List Value) (n:Nat),Vals xs its/\h.get? a=some {cls:=.type "list", data:=.seq its.toArray n}
 | .tup xs=>xs.length<=sizeLine/\∃ its:List Value,Vals xs its/\IsTup h a its.toArray
 | .dK kvs=>kvs.length<=sizeLine/\(a == sysModules)=false/\∃ vs,KV kvs vs/\h.DictOf (zwm P w) a vs
 | .dT kvs=>kvs.length<=sizeLine/\(a == sysModules)=false/\∃ xs:List (List Key×Addr×Value),
   Paired (fun (p:List Key×V) (q:List Key×Addr×Value)=>p.1=q.1/\H q.2.1=some (.tup (p.1.map kV))/\RelV p.2 q.2.2) kvs xs /\
   ∃ o es ep,h.get? a=some o/\o.ExactDict/\o.data=.dict es ep/\es.toList=xs.map (entryOfKey (tupleKind (zwm P w)))/\(xs.map (·.1)).Nodup
 | .set S n=>h.SetOf (intKind P w) a S n
 | .ins C dx fs=>H dx=some (.own a)/\fs.length<=1000/\dx≠a/\h.get? a=some (PySem.W.instObj C dx) /\
   ∃ mA,h.Ns1 dx mA/\(∀ f,RelO (fs.lookup f) (mA f))/\PySem.Within mA (fs.map (·.1))
 | .own _=>∃ o,h.get? a=some o
 | .xd fs=>∃ mA,h.Ns1 a mA/\∀ f,RelO (fs.lookup f) (mA f)
 | .rng lo hi=>∃ t u v,h.get? a=some {cls:=.type "range", data:=.fields #[.int lo t,.int hi u,.int 1 v]}
 | .frz o u=>h.get? a=some o/\ObjOk H h a u
 | .tbl ps=>h.get? a=some {cls:=.none,data:=.fields ps}
 | .met f x=>h.get? a=some (PySem.W.methodObj (.ref f) (.ref x))
 | .ext φ=>φ h/\(∃ o,h.get? a=some o)/\∀ h1 h2:Heap,φ h1->(∀ o,h1.get? a=some o->h2.get? a=some o)->φ h2
def HOk (H:Hp) (h:Heap):Prop:=∀ a o,H a=some o->ObjOk P w H h a o
end
section
variable {P:Program} {w:World} {H H':Hp} {h h':Heap} {a:Addr} {o:HO}
theorem ObjOk.lt (x:ObjOk P w H h a o):a<h.objs.size:=by
 cases o with
 | lst xs=>refine xz x fun _ _ _ _ e=>?_;clear x;exact Zo e
 | tup xs=>refine xC x fun _ _ _ p=>?_;clear x;exact p.lt
 | dK kvs=>obtain⟨_,_,_,_,o,_,_,e,_⟩:=x;exact Zo e
 | dT kvs=>obtain⟨_,_,_,_,o,_,_,e,_⟩:=x;exact Zo e
 | set S n=>refine xB x fun o _ _ _ e _=>?_;clear x;exact Zo e
 | ins C dx fs=>refine xx x fun _ _ _ e _=>?_;clear x;exact Zo e
 | own y=>refine xb x fun _ e=>?_;clear x;exact Zo e
 | xd fs=>obtain⟨_,⟨_,_,_,e,_⟩,_⟩:=x;exact Zo e
 | rng lo hi=>refine xq x fun _ _ _ e=>?_;clear x;exact Zo e
 | frz ob u=>refine xg x fun e _=>?_;clear x;exact Zo e
 | tbl ps=>exact Zo (show h.get? a=some _ from x)
 | met f y=>exact Zo (show h.get? a=some _ from x)
 | ext φ=>obtain⟨_,⟨_,e⟩,_⟩:=x;exact Zo e
theorem Paired.mapP {α β:Type} {F G:α->β->Prop}:∀ {l₁:List α} {l₂:List β},Paired F l₁ l₂->(∀ a b,F a b->G a b)->Paired G l₁ l₂:=fun h f=>by
 induction h with
 | nil=>exact .nil
 | cons r t ih=>exact .cons (f _ _ r) ih
theorem ObjOk.stay (x:ObjOk P w H h a o) (k:∀ b u,(b=a\/H b=some (.own a))->h.get? b=some u->h'.get? b=some u)
  (ho:∀ b,H b=some (.own a)->H' b=some (.own a)) (ht:∀ b xs,H b=some (.tup xs)->H' b=some (.tup xs)):ObjOk P w H' h' a o:=by
 induction o with
 | lst xs=>refine xz x fun z its n r e=>?_;clear x;exact⟨z,its,n,r,k _ _ (.inl rfl) e⟩
 | tup xs=>obtain⟨z,its,r,ob,e,c⟩:=x;exact⟨z,its,r,ob,k _ _ (.inl rfl) e,c⟩
 | dK kvs=>obtain⟨z,y,vs,r,ob,es,ep,e,c⟩:=x;exact⟨z,y,vs,r,ob,es,ep,k _ _ (.inl rfl) e,c⟩
 | dT kvs=>
  obtain⟨z,y,xs,r,ob,es,ep,e,c⟩:=x
  exact⟨z,y,xs,Paired.mapP r fun p q z=>⟨z.1,ht _ _ z.2.1,z.2.2⟩,ob,es,ep,k _ _ (.inl rfl) e,c⟩
 | set S n=>refine xB x fun ob es ep t e c=>?_;clear x;exact⟨ob,es,ep,t,k _ _ (.inl rfl) e,c⟩
 | ins C dx fs=>
  obtain⟨d,z,ne,e,mA,⟨od,es,ep,e2,c⟩,r⟩:=x
  exact⟨ho _ d,z,ne,k _ _ (.inl rfl) e,mA,⟨od,es,ep,k _ _ (.inr d) e2,c⟩,r⟩
 | own y=>refine xb x fun ob e=>?_;clear x;exact⟨ob,k _ _ (.inl rfl) e⟩
 | xd fs=>obtain⟨mA,⟨od,es,ep,e,c⟩,r⟩:=x;exact⟨mA,⟨od,es,ep,k _ _ (.inl rfl) e,c⟩,r⟩
 | rng lo hi=>refine xq x fun t u v e=>?_;clear x;exact⟨t,u,v,k _ _ (.inl rfl) e⟩
 | frz ob u ih=>refine xg x fun e q=>?_;clear x;exact⟨k _ _ (.inl rfl) e,ih q⟩
 | tbl ps=>
  have e:h.get? a=some {cls:=.none,data:=.fields ps}:=x;show h'.get? a=some {cls:=.none,data:=.fields ps};exact k a _ (.inl rfl) e
 | met f y=>
  have e:h.get? a=some (PySem.W.methodObj (.ref f) (.ref y)):=x;show h'.get? a=some (PySem.W.methodObj (.ref f) (.ref y));exact k a _ (.inl rfl) e
 | ext φ=>obtain⟨p,⟨o,e⟩,st⟩:=x;exact⟨st _ _ p fun o q=>k _ _ (.inl rfl) q,⟨o,k _ _ (.inl rfl) e⟩,st⟩
theorem HOk.lt (x:HOk P w H h) (e:H a=some o):a<h.objs.size:=(x a o e).lt
theorem HOk.fresh (x:HOk P w H h) (e:h.objs.size<=a):H a=none:=by
 cases q:H a with
 | none=>rfl
 | some u=>exact absurd (Zp (x.lt q) e) (Nat.lt_irrefl _)
theorem HOk.kept (x:HOk P w H h) (k:∀ b u,h.get? b=some u->h'.get? b=some u):HOk P w H h':=fun a o e=>
 (x a o e).stay (fun b u _ q=>k b u q) (fun _ q=>q) fun _ _ q=>q
theorem HOk.laid (x:HOk P w H h) (k:∀ b u,h.get? b=some u->h'.get? b=some u) (hp:h.objs.size<=a) (new:ObjOk P w (upd H a o) h' a o):HOk P w (upd H a o) h':=fun b u e=>by
 have hn:=x.fresh hp;by_cases hb:b=a
 ·subst hb;rw [Bz] at e;cases e;exact new
 ·rw [B3 hb] at e;exact (x b u e).stay (fun c v _ q=>k c v q) (fun c q=>by rw [B3 (zcm q hn)];exact q) fun c xs q=>by rw [B3 (zcm q hn)];exact q
end
def Rd (H:Hp) (a:Addr) (u:HO):Prop:=H a=some u\/∃ o,H a=some (.frz o u)
theorem Rd.of {H:Hp} {a:Addr} {u:HO} (h:H a=some u):Rd H a u:=.inl h
theorem Rd.ok {P:Program} {w:World} {H:Hp} {h:Heap} {a:Addr} {u:HO} (r:Rd H a u) (x:HOk P w H h):ObjOk P w H h a u:=by
 rcases r with r | ⟨o,r⟩
 ·exact x a u r
 ·refine xg (x a _ r) fun _ q=>?_;exact q
noncomputable def Mut:Option HO->Prop
 | some (.lst _)=>True
 | some (.dK _)=>True
 | some (.dT _)=>True
 | some (.set _ _)=>True
 | some (.ins _ _ _)=>True
 | some (.ext _)=>True
 | _=>False
section
variable {P:Program} {w:World} {H:Hp} {h h':Heap} {x e:Addr} {o':HO}
theorem HOk.write (ok:HOk P w H h) (mu:Mut (H x)) (he:e=x\/H e=some (.own x)) (k:∀ b u,b≠e->h.get? b=some u->h'.get? b=some u) (heo:∃ u,h'.get? e=some u)
  (new:ObjOk P w (upd H x o') h' x o'):HOk P w (upd H x o') h':=fun b u q=>by
 have nown:∀ c y,H c=some (.own y)->c≠x:=fun c y r z=>by subst z;rw [r] at mu;exact mu
 have ntup:∀ c xs,H c=some (.tup xs)->c≠x:=fun c xs r z=>by subst z;rw [r] at mu;exact mu
 by_cases hb:b=x
 ·subst hb;rw [Bz] at q;cases q;exact new
 ·rw [B3 hb] at q;by_cases hbe:b=e
  ·have q':H b=some (.own x):=by
    rcases he with z | z
    ·exact absurd (hbe.trans z) hb
    ·rw [hbe];exact z
   rw [q] at q';cases q';refine xb heo fun v hv=>?_;clear heo
   exact⟨v,by rw [hbe];exact hv⟩
  ·refine (ok b u q).stay (fun c v hc r=>k c v ?_ r) (fun c r=>by rw [B3 (nown c b r)];exact r) fun c xs r=>by rw [B3 (ntup c xs r)];exact r
   rcases hc with rfl | hc
   ·exact hbe
   ·rintro rfl
    rcases he with z | z
    ·exact nown c b hc z
    ·rw [hc] at z;cases z;exact hb rfl
end
structure Un (fs ex:List Addr) (H H':Hp) (h h':Heap):Prop where
 keep:∀ b o,h.get? b=some o->H b=none->b∉fs->b∉ex->h'.get? b=some o
 slot:∀ b o,h.get? b=some o->H b=none->b∈fs->b∉ex->∃ sl,h'.get? b=some {o with slots:=sl}
 free:∀ b o,h.get? b=some o->H b=none->b∉ex->H' b=none
 there:∀ b o,h.get? b=some o->b∉ex->∃ o',h'.get? b=some o'
 tups:∀ b xs,H b=some (.tup xs)->H' b=some (.tup xs)
 frzs:∀ b o u,H b=some (.frz o u)->H' b=some (.frz o u)
 tbls:∀ b ps,H b=some (.tbl ps)->∃ more,H' b=some (.tbl (ps++more))
section
variable {fs fs' ex ex':List Addr} {H H1 H2:Hp} {h h1 h2 h':Heap} {a x e:Addr} {o:HO}
theorem Un.any (u:Un fs ex H H1 h h1) {b:Addr} {ob:Obj} (q:h.get? b=some ob) (n:H b=none) (hx:b∉ex):∃ sl,h1.get? b=some {ob with slots:=sl}:=by
 by_cases hb:b∈fs
 ·exact u.slot b ob q n hb hx
 ·exact⟨ob.slots,u.keep b ob q n hb hx⟩
theorem Un.trans (a:Un fs ex H H1 h h1) (b:Un fs ex H1 H2 h1 h2):Un fs ex H H2 h h2 where
 keep:=fun c ob q n hc hx=>b.keep c ob (a.keep c ob q n hc hx) (a.free c ob q n hx) hc hx
 slot:=fun c ob q n hc hx=>by
  refine xb (a.slot c ob q n hc hx) fun sl e1=>?_;refine xb (b.slot c _ e1 (a.free c ob q n hx) hc hx) fun sl' e2=>?_;exact⟨sl',e2⟩
 free:=fun c ob q n hx=>by
  refine xb (a.there c ob q hx) fun o' e1=>?_;exact b.free c o' e1 (a.free c ob q n hx) hx
 there:=fun c ob q hx=>by
  refine xb (a.there c ob q hx) fun o' e1=>?_;exact b.there c o' e1 hx
 tups:=fun c xs q=>b.tups c xs (a.tups c xs q)
 frzs:=fun c ob xs q=>b.frzs c ob xs (a.frzs c ob xs q)
 tbls:=fun c ps q=>by
  refine xb (a.tbls c ps q) fun m1 e1=>?_;refine xb (b.tbls c _ e1) fun m2 e2=>?_;exact⟨m1++m2,by rw [e2,Gr]⟩
theorem Un.kept (k:∀ b u,h.get? b=some u->h'.get? b=some u):Un fs ex H H h h':=
 ⟨fun b ob q _ _ _=>k b ob q,fun b ob q _ _ _=>⟨ob.slots,k b ob q⟩,fun _ _ _ n _=>n,fun b ob q _=>⟨ob,k b ob q⟩,fun _ _ q=>q,fun _ _ _ q=>q,fun _ ps q=>⟨#[],by rw [q];simp⟩⟩
theorem Un.refl:Un fs ex H H h h:=Un.kept fun _ _ q=>q
theorem Un.laid (k:∀ b u,h.get? b=some u->h'.get? b=some u) (hp:h.objs.size<=a) (hn:H a=none):Un fs ex H (upd H a o) h h' where
 keep:=fun b u q _ _ _=>k b u q
 slot:=fun b u q _ _ _=>⟨u.slots,k b u q⟩
 free:=fun b u q n _=>by rw [B3 (Z1 (Zp (Zo q) hp))];exact n
 there:=fun b u q _=>⟨u,k b u q⟩
 tups:=fun b xs q=>by rw [B3 (zcm q hn)];exact q
 frzs:=fun b u xs q=>by rw [B3 (zcm q hn)];exact q
 tbls:=fun b ps q=>⟨#[],by rw [B3 (zcm q hn),q];simp⟩
theorem Un.write (mu:Mut (H x)) (he:e=x\/H e=some (.own x)) (k:∀ b u,b≠e->h.get? b=some u->h'.get? b=some u) (heo:∃ u,h'.get? e=some u):Un fs ex H (upd H x o) h h':=by
 have hx:∀ b,H b=none->b≠x:=fun b n z=>by subst z;rw [n] at mu;exact mu
 have hb:∀ b,H b=none->b≠e:=fun b n z=>by
  subst z;rcases he with r | r
  ·exact hx b n r
  ·rw [n] at r;cases r
 have hm:∀ b u,H b=some u -> ¬ Mut (some u)->b≠x:=fun b u q nm z=>by subst z;rw [q] at mu;exact nm mu
 refine⟨fun b u q n _ _=>k b u (hb b n) q,fun b u q n _ _=>⟨u.slots,k b u (hb b n) q⟩,fun b u q n _=>by rw [B3 (hx b n)];exact n,fun b u q _=>?_,
  fun b xs q=>by rw [B3 (hm b _ q fun z=>z)];exact q,fun b u xs q=>by rw [B3 (hm b _ q fun z=>z)];exact q,fun b ps q=>⟨#[],by rw [B3 (hm b _ q fun z=>z),q];simp⟩⟩
 by_cases hbe:b=e
 ·subst hbe;exact heo
 ·exact⟨u,k b u hbe q⟩
theorem Un.mono (u:Un fs ex H H1 h h1) (hs:∀ b∈fs,b∈fs') (hx:∀ b∈ex,b∈ex'):Un fs' ex' H H1 h h1:=
 ⟨fun b ob q n hb he=>u.keep b ob q n (fun z=>hb (hs b z)) fun z=>he (hx b z),fun _ _ q n _ he=>u.any q n fun z=>he (hx _ z),fun b ob q n he=>u.free b ob q n fun z=>he (hx b z),fun b ob q he=>u.there b ob q fun z=>he (hx b z),u.tups,u.frzs,u.tbls⟩
end
noncomputable def trk (h:Heap) (H:Hp):List Addr:=(List.range h.objs.size).filter fun a=>(H a).isSome
noncomputable def hidT (h:Heap) (H:Hp):Heap:=PySem.W.hideAll h (trk h H)
theorem zxj (h:Heap) (H:Hp):(hidT h H).objs.size=h.objs.size:=PySem.W.hideAll_size _ _
theorem ycd {h:Heap} {H:Hp} {b:Addr} {o:Obj} (e:h.get? b=some o) (n:H b=none):(hidT h H).get? b=some o:=
 PySem.W.hideAll_get _ e fun hm=>by
  have q:(H b).isSome=true:=(Ji.mp hm).2;rw [n] at q;simp at q
theorem yhv {h:Heap} {H:Hp} {b:Addr} {o:Obj} (e:(hidT h H).get? b=some o):h.get? b=some o/\H b=none:=by
 have e':h.get? b=some o:=PySem.W.of_hideAll (trk h H) e;refine⟨e',?_⟩
 cases q:H b with
 | none=>rfl
 | some x=>
  have hm:b∈trk h H:=Ji.mpr ⟨Wi.mpr (Zo e'),by simp [q]⟩;have z:(hidT h H).get? b=none:=PySem.W.hideAll_none (trk h H) hm;rw [z] at e;cases e
end L2
namespace L2
open PySem PySem.Spec PyProof.Rows
structure Mod (K:PySem.W.Frag) (mg:Str->Option Value) (base:Heap):Prop where
 kin:K.In base
 glob:base.Ns mainGlobals mg
 blt:∃ mb,base.Ns builtinsNs mb/\∀ x:Str,x ≠ "__name__" -> mb x=bootBuiltins x
 nolimit:base.NoLimit
structure Cx where
 prog:Program
 w:World
 K:PySem.W.Frag
 mg:Str->Option Value
 base:Heap
 A:Around
 N:List Str
 s₀:Shared
 H₀:Hp
 env:Env
 outer:List Env
 stack:List Env
 ex:List Addr
 fn:Str->Bool
 calm:Bool
 pn:List (Addr×Obj)
 xe:Value->Shared->Prop
noncomputable def frs (l:List Env):List Addr:=l.filterMap (·.frame)
noncomputable abbrev Cx.fs (X:Cx):List Addr:=frs X.outer
def Vis (sc:Scope) (x:Str):Prop:=sc.names.lookup x=some .local\/sc.names.lookup x=some .cell\/sc.names.lookup x=some .free
def Loc (sc:Scope) (x:Str):Prop:=sc.names.lookup x=some .local\/sc.names.lookup x=some .cell
def Look (env:Env) (h:Heap) (m:Str->Option Value) (x:Str) (u:Value):Prop:=
 (env.kindOf x=some .local/\m x=some u)\/((env.kindOf x=some .cell\/env.kindOf x=some .free)/\∃ c,env.cells.lookup x=some c/\h.IsCell c (some u))
structure Cx.Ok (X:Cx):Prop where
 mod:Mod X.K X.mg X.base
 kind:X.env.scope.kind=.function
 glob:X.env.globals=mainGlobals
 blt:X.env.builtins=builtinsNs
 above:X.s₀.heap.objs.size<=X.env.locals
 inj:∀ x y c,X.env.cells.lookup x=some c->X.env.cells.lookup y=some c->x=y
 has:∀ x,(X.env.kindOf x=some .cell\/X.env.kindOf x=some .free)->∃ c,X.env.cells.lookup x=some c
 cab:∀ x c,X.fn x=true->X.env.cells.lookup x=some c->X.s₀.heap.objs.size<=c
 hd:X.calm=true->X.A.handled=none
 frames:X.A.frames=some X.stack
 stk:X.stack=X.outer\/(X.stack=X.env::X.outer/\X.env.frame=some X.env.locals)
 exf:∀ b∈X.ex,b≠X.env.locals/\∀ x c,X.env.cells.lookup x=some c->c≠b
 bs:∀ b o,X.base.get? b=some o->X.s₀.heap.get? b=some o/\X.H₀ b=none
 bsz:X.base.objs.size<=X.s₀.heap.objs.size
 noex:∀ b o,X.base.get? b=some o->b∉X.ex
 exfs:∀ b∈X.ex,b∉X.fs
 funs:X.s₀.heap.FunFrames X.base X.outer
 frf:∀ b∈X.fs,X.H₀ b=none
structure Inv (X:Cx) (pins:List (Addr×Obj)) (σ:List (Option V)) (H:Hp) (s:Shared):Prop where
 ok:X.Ok
 os:s.os=X.s₀.os
 bare:AllBare s.gens
 base:Un X.fs X.ex X.H₀ H X.s₀.heap s.heap
 loc:∃ m,s.heap.Ns X.env.locals m/\∀ (i:Nat) (x:Str) (v:V),X.N[i]? = some x->σ[i]? = some (some v)->Vis X.env.scope x->∃ u,RelV v u/\Look X.env s.heap m x u
 cell:∀ x c,X.env.cells.lookup x=some c->∃ v,s.heap.IsCell c v
 free:H X.env.locals=none
 freeC:∀ x c,X.env.cells.lookup x=some c->H c=none
 pin:∀ p∈X.pn++pins,s.heap.get? p.1=some p.2/\H p.1=none/\p.1≠X.env.locals/\p.1∉X.fs/\∀ v,p.2.data ≠ .cell v
 hok:HOk X.prog X.w H s.heap
 len:σ.length=X.N.length
section
variable {X:Cx} {pins:List (Addr×Obj)} {σ:List (Option V)} {H H':Hp} {s:Shared} {h':Heap}
theorem Cx.Ok.nofr (ok:X.Ok) {b:Addr} {o:Obj} (e:X.base.get? b=some o):b∉X.fs:=fun hb=>by
 have:=(ok.funs.mem hb).1
 rw [e] at this;cases this
theorem Inv.bs (I:Inv X pins σ H s):∀ b o,X.base.get? b=some o->s.heap.get? b=some o/\H b=none:=fun b o e=>
 ⟨I.base.keep b o (I.ok.bs b o e).1 (I.ok.bs b o e).2 (I.ok.nofr e) (I.ok.noex b o e),I.base.free b o (I.ok.bs b o e).1 (I.ok.bs b o e).2 (I.ok.noex b o e)⟩
theorem Inv.bk (I:Inv X pins σ H s):∀ b o,X.base.get? b=some o->s.heap.get? b=some o:=fun b o e=>(I.bs b o e).1
theorem Inv.mod (I:Inv X pins σ H s):Mod X.K X.mg X.base:=I.ok.mod
theorem Inv.kIn (I:Inv X pins σ H s):X.K.In s.heap:=I.ok.mod.kin.keeps I.bk
theorem Inv.fr (I:Inv X pins σ H s):∃ m,Fr X.base X.env.locals s.heap m:=
 let ⟨m,hn,_⟩:=I.loc
 ⟨m,hn,I.bk,Y3 I.ok.bsz I.ok.above⟩
theorem Inv.lt (I:Inv X pins σ H s):X.env.locals<s.heap.objs.size:=let ⟨_,hn,_⟩:=I.loc;hn.lt
theorem Inv.sz (I:Inv X pins σ H s):X.s₀.heap.objs.size<=s.heap.objs.size:=Y3 I.ok.above (Kk I.lt)
theorem Inv.nofs (I:Inv X pins σ H s) {a:Addr} (h:s.heap.objs.size<=a):a∉X.fs:=fun hb=>by
 refine xC (I.ok.funs.mem hb) fun _ o ho _=>?_;exact absurd (Zp (Zo ho) (Y3 I.sz h)) (Nat.lt_irrefl _)
theorem Inv.cne (I:Inv X pins σ H s):∀ x c,X.env.cells.lookup x=some c->c≠X.env.locals:=fun x c e z=>by
 refine xi (I.cell x c e) fun v o ho hd=>?_;obtain⟨m,⟨o',es,ep,ho',hd',_⟩,_⟩:=I.loc
 rw [z,ho'] at ho;cases ho;rw [hd'] at hd;cases hd
theorem Inv.funs (I:Inv X pins σ H s):s.heap.FunFrames X.base X.outer:=by
 have all:∀ (l:List Env),(∀ b∈frs l,b∈X.fs)->X.s₀.heap.FunFrames X.base l->s.heap.FunFrames X.base l:=by
  intro l;induction l with
  | nil=>intro _ _;trivial
  | cons env r ih=>
   intro hs hl;obtain⟨hk,⟨L,o,hf,hn,ho,hd⟩,hr⟩:=hl
   have hL:L∈X.fs:=hs L (by unfold frs;rw [Kp,hf];exact Y9);refine xb (I.base.slot L o ho (I.ok.frf L hL) hL fun z=>I.ok.exfs L z hL) fun sl e=>?_;exact⟨hk,⟨L,_,hf,hn,e,hd⟩,ih (fun b hb=>hs b (by unfold frs;rw [Kp,hf];exact Yl _ hb)) hr⟩
 exact all X.outer (fun _ hb=>hb) I.ok.funs
theorem Inv.stack (I:Inv X pins σ H s):s.heap.FunFrames X.base X.stack:=by
 rcases I.ok.stk with e | ⟨e,hf⟩
 ·rw [e];exact I.funs
 ·rw [e];refine xa I.loc fun m hn _=>?_;refine .cons (by rw [I.ok.kind];decide) hf hn ?_ I.funs;exact J3 (Y3 I.ok.bsz I.ok.above)
theorem Inv.stkSub (I:Inv X pins σ H s):∀ b∈frs X.stack,b∈X.env.locals::X.fs:=fun b hb=>by
 rcases I.ok.stk with e | ⟨e,hf⟩
 ·rw [e] at hb;exact Yl _ hb
 ·rw [e] at hb;unfold frs at hb;rw [Kp,hf] at hb;exact hb
theorem Inv.stkFree (I:Inv X pins σ H s):∀ b∈frs X.stack,H b=none:=fun b hb=>by
 rcases Zi.mp (I.stkSub b hb) with e | hb
 ·rw [e];exact I.free
 ·refine xC (I.ok.funs.mem hb) fun _ o ho _=>?_;exact I.base.free b o ho (I.ok.frf b hb) fun z=>I.ok.exfs b z hb
theorem Inv.step {g':Array GenState} {t':Nat} {d':Drawn} {ch:List Addr} (I:Inv X pins σ H s)
  (hch:∀ b∈ch,(b∈X.ex\/X.s₀.heap.objs.size<=b)/\b≠X.env.locals/\(∀ x c,X.env.cells.lookup x=some c->c≠b)/\∀ p∈X.pn++pins,p.1≠b)
  (keep:∀ b o,b≠X.env.locals->b∉X.fs->b∉ch->s.heap.get? b=some o->H b=none->h'.get? b=some o)
  (slot:∀ b o,b≠X.env.locals->b∈X.fs->b∉ch->s.heap.get? b=some o->H b=none->∃ sl,h'.get? b=some {o with slots:=sl}) (free:∀ b o,b∉ch->s.heap.get? b=some o->H b=none->H' b=none)
  (there:∀ b o,b∉ch->s.heap.get? b=some o->∃ o',h'.get? b=some o')
  (tups:∀ b xs,H b=some (.tup xs)->H' b=some (.tup xs)) (frzs:∀ b o u,H b=some (.frz o u)->H' b=some (.frz o u)) (tbls:∀ b ps,H b=some (.tbl ps)->∃ more,H' b=some (.tbl (ps++more)))
  (ns:∀ m,s.heap.Ns X.env.locals m->h'.Ns X.env.locals m) (hok:HOk X.prog X.w H' h') (hg:AllBare g') :
  Inv X pins σ H' {s with heap:=h',gens:=g',drawn:=d',toks:=t'}:=by
 have neL:∀ b o,X.s₀.heap.get? b=some o->b≠X.env.locals:=fun b o e=>Z1 (Zp (Zo e) I.ok.above)
 have neC:∀ b o,X.s₀.heap.get? b=some o->b∉X.ex->b∉ch:=fun b o e hx hb=>by
  rcases (hch b hb).1 with z | z
  ·exact hx z
  ·exact absurd (Zp (Zo e) z) (Nat.lt_irrefl _)
 have cellK:∀ x c,X.env.cells.lookup x=some c->∀ v,s.heap.IsCell c v->h'.IsCell c v:=fun x c e v hz=>xa hz fun o ho hd=>by
  have nch:c∉ch:=fun z=>(hch c z).2.2.1 x c e rfl
  by_cases hc:c∈X.fs
  ·refine xb (slot c o (I.cne x c e) hc nch ho (I.freeC x c e)) fun sl q=>?_;exact⟨_,q,hd⟩
  ·exact⟨o,keep c o (I.cne x c e) hc nch ho (I.freeC x c e),hd⟩
 refine⟨I.ok,I.os,hg,⟨fun b o e n hb hx=>?_,fun b o e n hb hx=>?_,fun b o e n hx=>?_,fun b o e hx=>?_,fun b xs e=>tups b xs (I.base.tups b xs e),fun b o xs e=>frzs b o xs (I.base.frzs b o xs e),fun b ps e=>?_⟩,?_,fun x c e=>?_,?_,fun x c e=>?_,fun p hp=>?_,hok,I.len⟩
 ·exact keep b o (neL b o e) hb (neC b o e hx) (I.base.keep b o e n hb hx) (I.base.free b o e n hx)
 ·refine xb (I.base.slot b o e n hb hx) fun sl e1=>?_;refine xb (slot b _ (neL b o e) hb (neC b o e hx) e1 (I.base.free b o e n hx)) fun sl' e2=>?_;exact⟨sl',e2⟩
 ·refine xb (I.base.there b o e hx) fun o' e1=>?_;exact free b o' (neC b o e hx) e1 (I.base.free b o e n hx)
 ·refine xb (I.base.there b o e hx) fun o' e1=>?_;exact there b o' (neC b o e hx) e1
 ·refine xb (I.base.tbls b ps e) fun m1 e1=>?_;refine xb (tbls b _ e1) fun m2 e2=>?_;exact⟨m1++m2,by rw [e2,Gr]⟩
 ·refine xa I.loc fun m hn hl=>?_;refine⟨m,ns m hn,fun i x v e1 e2 e3=>?_⟩
  refine xa (hl i x v e1 e2 e3) fun u r l=>?_;refine⟨u,r,?_⟩
  rcases l with l | ⟨k,c,e,z⟩
  ·exact .inl l
  ·exact .inr ⟨k,c,e,cellK x c e _ z⟩
 ·refine xb (I.cell x c e) fun v z=>?_;exact⟨v,cellK x c e v z⟩
 ·obtain⟨m,⟨o,_,_,ho,_⟩,_⟩:=I.loc
  exact free _ o (fun z=>(hch _ z).2.1 rfl) ho I.free
 ·refine xi (I.cell x c e) fun v o ho hd=>?_;exact free c o (fun z=>(hch c z).2.2.1 x c e rfl) ho (I.freeC x c e)
 ·refine xx (I.pin p hp) fun e n ne nf d=>?_;have nch:p.1∉ch:=fun z=>(hch p.1 z).2.2.2 p hp rfl
  exact⟨keep p.1 p.2 ne nf nch e n,free p.1 p.2 nch e n,ne,nf,d⟩
theorem Inv.un {t':Nat} (I:Inv X pins σ H s) (u:Un X.fs [] H H' s.heap h') (hok:HOk X.prog X.w H' h'):Inv X pins σ H' {s with heap:=h',toks:=t'}:=by
 obtain⟨m,⟨o,es,ep,ho,r⟩,_⟩:=id I.loc
 refine xb (u.any ho I.free (by simp)) fun sl hL=>?_;exact I.step (g':=s.gens) (d':=s.drawn) (ch:=[]) (fun _ z=>nomatch z) (fun b o _ hb _ e n=>u.keep b o e n hb (by simp)) (fun b o _ hb _ e n=>u.slot b o e n hb (by simp)) (fun b o _ e n=>u.free b o e n (by simp)) (fun b o _ e=>u.there b o e (by simp)) u.tups u.frzs u.tbls (fun m' hm=>by
  refine xn hm fun o' es' ep' ho' r'=>?_;clear hm
  rw [ho] at ho';cases ho';exact⟨_,es',ep',hL,r'⟩) hok I.bare
theorem Inv.call {g':Array GenState} {t':Nat} {d':Drawn} {ch:List Addr} (I:Inv X pins σ H s) (u:Un (frs X.stack) ch H H' s.heap h') (hok:HOk X.prog X.w H' h') (hg:AllBare g')
  (hch:∀ b∈ch,(b∈X.ex\/X.s₀.heap.objs.size<=b)/\b≠X.env.locals/\(∀ x c,X.env.cells.lookup x=some c->c≠b)/\∀ p∈X.pn++pins,p.1≠b) :
  Inv X pins σ H' {s with heap:=h',gens:=g',drawn:=d',toks:=t'}:=by
 obtain⟨m,⟨o,es,ep,ho,r⟩,_⟩:=id I.loc
 refine xb (u.any ho I.free fun z=>(hch _ z).2.1 rfl) fun sl hL=>?_;exact I.step (ch:=ch) hch (fun b o hL hb hc e n=>u.keep b o e n (fun z=>(Zi.mp (I.stkSub b z)).elim hL hb) hc) (fun b o _ _ hc e n=>u.any e n hc) (fun b o hc e n=>u.free b o e n hc) (fun b o hc e=>u.there b o e hc) u.tups u.frzs u.tbls (fun m' hm=>by
  refine xn hm fun o' es' ep' ho' r'=>?_;clear hm
  rw [ho] at ho';cases ho';exact⟨_,es',ep',hL,r'⟩) hok hg
theorem Inv.turned {t':Nat} {it:Addr} (I:Inv X pins σ H s) (k:∀ b o,b≠it->s.heap.get? b=some o->h'.get? b=some o) (hn:H it=none) (hL:it≠X.env.locals)
  (h1:it∈X.ex\/X.s₀.heap.objs.size<=it) (h2:∀ x c,X.env.cells.lookup x=some c->c≠it) (h3:∀ p∈X.pn++pins,p.1≠it):Inv X pins σ H {s with heap:=h',toks:=t'}:=by
 have nit:∀ b u,H b=some u->b≠it:=fun b u e z=>by rw [z,hn] at e;cases e
 refine I.step (g':=s.gens) (d':=s.drawn) (ch:=[it]) (fun b hb=>?_) (fun b o _ _ hc e _=>k b o (fun z=>hc (by simp [z])) e) (fun b o _ _ hc e _=>⟨o.slots,k b o (fun z=>hc (by simp [z])) e⟩) (fun _ _ _ _ n=>n)
  (fun b o hc e=>⟨o,k b o (fun z=>hc (by simp [z])) e⟩) (fun _ _ e=>e) (fun _ _ _ e=>e) (fun b ps e=>⟨#[],by rw [e];simp⟩) (fun m hm=>?_) (fun b u e=>?_) I.bare
 ·have e:b=it:=by simpa using hb
  subst e;exact⟨h1,hL,h2,h3⟩
 ·refine xn hm fun o es ep ho r=>?_;clear hm
  exact⟨o,es,ep,k _ o (Wh hL) ho,r⟩
 ·refine (I.hok b u e).stay (fun c v hc q=>k c v ?_ q) (fun _ q=>q) fun _ _ q=>q
  rcases hc with z | z
  ·rw [z];exact nit b u e
  ·exact nit c _ z
theorem Inv.tok (I:Inv X pins σ H s) (t:Nat):Inv X pins σ H {s with toks:=t}:=I.un (h':=s.heap) (t':=t) Un.refl I.hok
theorem Inv.kept {t':Nat} (I:Inv X pins σ H s) (k:∀ b u,s.heap.get? b=some u->h'.get? b=some u):Inv X pins σ H {s with heap:=h',toks:=t'}:=I.un (Un.kept k) (I.hok.kept k)
theorem Inv.laid {a:Addr} {o:HO} {t':Nat} (I:Inv X pins σ H s) (k:∀ b u,s.heap.get? b=some u->h'.get? b=some u) (hp:s.heap.objs.size<=a) (new:ObjOk X.prog X.w (upd H a o) h' a o) :
  Inv X pins σ (upd H a o) {s with heap:=h',toks:=t'}:=I.un (Un.laid k hp (I.hok.fresh hp)) (I.hok.laid k hp new)
theorem Inv.write {x e:Addr} {o:HO} {t':Nat} (I:Inv X pins σ H s) (mu:Mut (H x)) (he:e=x\/H e=some (.own x)) (k:∀ b u,b≠e->s.heap.get? b=some u->h'.get? b=some u) (heo:∃ u,h'.get? e=some u)
  (new:ObjOk X.prog X.w (upd H x o) h' x o):Inv X pins σ (upd H x o) {s with heap:=h',toks:=t'}:=I.un (Un.write mu he k heo) (I.hok.write mu he k heo new)
theorem Inv.pins_of {pins':List (Addr×Obj)} (I:Inv X pins σ H s) (h:∀ p∈pins',s.heap.get? p.1=some p.2/\H p.1=none/\p.1≠X.env.locals/\p.1∉X.fs/\∀ v,p.2.data ≠ .cell v):Inv X pins' σ H s:=
 ⟨I.ok,I.os,I.bare,I.base,I.loc,I.cell,I.free,I.freeC,fun p hp=>(Yw.mp hp).elim (fun z=>I.pin p (Qc _ z)) (h p),I.hok,I.len⟩
theorem zrc {N:List Str} (hN:N.Nodup) {i j:Nat} {x:Str} (a:N[i]? = some x) (b:N[j]? = some x):i=j:=by
 refine xb (Zl.mp a) fun h1 e1=>?_;refine xb (Zl.mp b) fun h2 e2=>?_;exact (Qz hN).mp (e1.trans e2.symm)
theorem zmf {M:Model} {A:Around} {E:Value->Shared->Prop} {i:Nat} {x:Str} {v:V} {u:Value} {Q:Unit->Shared->Prop} (I:Inv X pins σ H s) (hN:X.N.Nodup) (hi:X.N[i]? = some x) (hx:Loc X.env.scope x) (r:RelV v u)
  (h:∀ s',Inv X pins (σ.set i (some v)) H s'->(∃ a,Heap.SameBut a s.heap s'.heap/\(a=X.env.locals\/X.env.cells.lookup x=some a))->Q () s') (hf:X.fn x=true\/X.env.scope.names.lookup x=some .local:=by first | exact .inl rfl | exact .inr rfl | assumption):wpAny M A (storeName X.env x u) Q E s:=by
 refine xa (id I.loc) fun m hn hl=>?_;have hcls:(X.env.scope.kind == .class || (X.env.scope.kind == .module && X.env.locals != X.env.globals))=false:=by rw [I.ok.kind];rfl
 have hiσ:i<σ.length:=by rw [I.len];exact (Zl.mp hi).1
 have cne:=I.cne;have tracked:∀ {a:Addr} {h':Heap},(∃ o,s.heap.get? a=some o/\H a=none)->Heap.SameBut a s.heap h'->HOk X.prog X.w H h':=fun {a h'} ha hs b ob e=>by
  refine xa ha fun _ _ hfree=>?_;clear ha
  refine (I.hok b ob e).stay (fun c w' hc q=>(hs.2 c ?_).trans q) (fun _ q=>q) fun _ _ q=>q
  rintro rfl
  rcases hc with rfl | hc
  ·rw [hfree] at e;cases e
  ·rw [hfree] at hc;cases hc
 rcases hx with hk | hk
 ·refine wpAny_storeName_local hk hn (fun h' hn' hs=>?_) hcls;refine xn (id hn) fun oL _ _ hoL _=>?_;refine h _ ⟨I.ok,I.os,I.bare,⟨fun b o e n hb hx=>?_,fun b o e n hb hx=>?_,I.base.free,fun b o e hx=>?_,I.base.tups,I.base.frzs,I.base.tbls⟩,⟨_,hn',fun j y v' e1 e2 e3=>?_⟩,fun y c e=>?_,I.free,I.freeC,fun p hp=>?_,tracked ⟨oL,hoL,I.free⟩ hs,by simpa using I.len⟩ ⟨_,hs,.inl rfl⟩
  ·exact (hs.2 b (Z1 (Zp (Zo e) I.ok.above))).trans (I.base.keep b o e n hb hx)
  ·refine xb (I.base.slot b o e n hb hx) fun sl e1=>?_;exact⟨sl,(hs.2 b (Z1 (Zp (Zo e) I.ok.above))).trans e1⟩
  ·refine xb (I.base.there b o e hx) fun o' e1=>?_;exact⟨o',(hs.2 b (Z1 (Zp (Zo e) I.ok.above))).trans e1⟩
  ·by_cases hj:j=i
   ·subst hj;rw [hi] at e1;cases e1;rw [Y4 hiσ] at e2;cases e2;exact⟨u,r,.inl ⟨hk,by simp⟩⟩
   ·rw [Ym (Wh hj)] at e2;refine xa (hl j y v' e1 e2 e3) fun u' r' q=>?_;refine⟨u',r',?_⟩
    rcases q with⟨k,e⟩ | ⟨k,c,e,z⟩
    ·refine .inl ⟨k,?_⟩;have:y≠x:=fun e=>hj (zrc hN e1 (e ▸ hi))
     simp [this,e]
    ·exact .inr ⟨k,c,e,z.sameBut hs (cne y c e)⟩
  ·refine xb (I.cell y c e) fun w' z=>?_;exact⟨w',z.sameBut hs (cne y c e)⟩
  ·refine xx (I.pin p hp) fun e n ne nf d=>?_;exact⟨(hs.2 p.1 ne).trans e,n,ne,nf,d⟩
 ·have hfn:X.fn x=true:=by
   rcases hf with z | z
   ·exact z
   ·rw [z] at hk;cases hk
  refine xb (I.ok.has x (.inl hk)) fun c hc=>?_;refine xb (I.cell x c hc) fun w' z=>?_;refine wpAny_storeName_cell I.ok.kind hk hc z (fun h' hc' hs=>?_);refine xa (id z) fun oc hoc hocd=>?_;refine h {s with heap:=h'} ⟨I.ok,I.os,I.bare,⟨fun b o e n hb hx=>?_,fun b o e n hb hx=>?_,I.base.free,fun b o e hx=>?_,I.base.tups,I.base.frzs,I.base.tbls⟩,⟨m,hn.sameBut hs (Wh (cne x c hc)),fun j y v' e1 e2 e3=>?_⟩,fun y c' e=>?_,I.free,I.freeC,fun p hp=>?_,tracked ⟨oc,hoc,I.freeC x c hc⟩ hs,by simpa using I.len⟩ ⟨c,hs,.inr hc⟩
  ·exact (hs.2 b (Z1 (Zp (Zo e) (I.ok.cab x c hfn hc)))).trans (I.base.keep b o e n hb hx)
  ·refine xb (I.base.slot b o e n hb hx) fun sl e1=>?_;exact⟨sl,(hs.2 b (Z1 (Zp (Zo e) (I.ok.cab x c hfn hc)))).trans e1⟩
  ·refine xb (I.base.there b o e hx) fun o' e1=>?_;exact⟨o',(hs.2 b (Z1 (Zp (Zo e) (I.ok.cab x c hfn hc)))).trans e1⟩
  ·by_cases hj:j=i
   ·subst hj;rw [hi] at e1;cases e1;rw [Y4 hiσ] at e2;cases e2;exact⟨u,r,.inr ⟨.inl hk,c,hc,hc'⟩⟩
   ·rw [Ym (Wh hj)] at e2;refine xa (hl j y v' e1 e2 e3) fun u' r' q=>?_;refine⟨u',r',?_⟩
    rcases q with q | ⟨k,c',e,z'⟩
    ·exact .inl q
    ·refine .inr ⟨k,c',e,z'.sameBut hs ?_⟩;rintro rfl
     exact hj (zrc hN e1 (I.ok.inj _ _ _ e hc ▸ hi))
  ·by_cases hcc:c'=c
   ·subst hcc;exact⟨_,hc'⟩
   ·refine xb (I.cell y c' e) fun w2 z2=>?_;exact⟨w2,z2.sameBut hs hcc⟩
  ·refine xx (I.pin p hp) fun e n ne nf d=>?_;refine⟨(hs.2 p.1 ?_).trans e,n,ne,nf,d⟩
   intro q;rw [q,hoc] at e;have q':oc=p.2:=Yh e;exact d w' (by rw [<- q'];exact hocd)
theorem zgp {M:Model} {A:Around} {E:Value->Shared->Prop} {i:Nat} {x:Str} {v:V} {u:Value} {Q:Unit->Shared->Prop} (I:Inv X pins σ H s) (hN:X.N.Nodup) (hi:X.N[i]? = some x) (hx:Loc X.env.scope x) (r:RelV v u)
  (h:∀ s',Inv X pins (σ.set i (some v)) H s'->Q () s') (hf:X.fn x=true\/X.env.scope.names.lookup x=some .local:=by first | exact .inl rfl | exact .inr rfl | assumption):wpAny M A (storeName X.env x u) Q E s:=
 zmf I hN hi hx r (fun s' I' _=>h s' I') hf
theorem Inv.call' {s':Shared} {ch:List Addr} (I:Inv X pins σ H s) (ho:s'.os=s.os) (u:Un (frs X.stack) ch H H' s.heap s'.heap) (hok:HOk X.prog X.w H' s'.heap) (hg:AllBare s'.gens)
  (hch:∀ b∈ch,(b∈X.ex\/X.s₀.heap.objs.size<=b)/\b≠X.env.locals/\(∀ x c,X.env.cells.lookup x=some c->c≠b)/\∀ p∈X.pn++pins,p.1≠b):Inv X pins σ H' s':=by
 obtain⟨h',g',d',t',o'⟩:=s'
 have e:o'=s.os:=ho;subst e;exact I.call (g':=g') (t':=t') (d':=d') u hok hg hch
end
noncomputable abbrev XK:=Value->Option Addr->Hp->Prop
noncomputable abbrev St:=List (Option V)
noncomputable abbrev VK:=V->Hp->Prop
noncomputable abbrev TE:=St->Hp->VK->Prop
noncomputable abbrev TT:=St->Hp->(Bool->Hp->Prop)->Prop
noncomputable abbrev TA:=St->Hp->(List V->Hp->Prop)->Prop
structure Ends where
 nx:St->Hp->Prop
 rt:VK
 bk:St->Hp->Prop:=fun _ _=>False
 ct:St->Hp->Prop:=fun _ _=>False
noncomputable abbrev TS:=Ends->St->Hp->Prop
def EP (X:Cx) (pins:List (Addr×Obj)) (σ:St) (Q:VK) (u:Value) (s':Shared):Prop:=∃ v H',Inv X pins σ H' s'/\RelV v u/\Q v H'
def TP (X:Cx) (pins:List (Addr×Obj)) (σ:St) (Q:Bool->Hp->Prop) (b:Bool) (s':Shared):Prop:=∃ H',Inv X pins σ H' s'/\Q b H'
def AP (X:Cx) (pins:List (Addr×Obj)) (σ:St) (Q:List V->Hp->Prop) (us:List Value) (s':Shared):Prop:=∃ vs H',Inv X pins σ H' s'/\Vals vs us/\Q vs H'
def SP (X:Cx) (pins:List (Addr×Obj)) (D:Ends) (f:Flow) (s':Shared):Prop:=
 match f with
 | .next=>∃ σ' H',Inv X pins σ' H' s'/\D.nx σ' H'
 | .brk=>∃ σ' H',Inv X pins σ' H' s'/\D.bk σ' H'
 | .cont=>∃ σ' H',Inv X pins σ' H' s'/\D.ct σ' H'
 | .ret u=>∃ v σ' H',Inv X pins σ' H' s'/\RelV v u/\D.rt v H'
def PE (X:Cx) (e:Expr) (t:TE):Prop:=
 ∀ (pins:List (Addr×Obj)) (s:Shared) (σ:St) (H:Hp) (Q:VK),Inv X pins σ H s->t σ H Q->wpAny (model X.prog X.w) X.A (eval e X.env) (EP X pins σ Q) X.xe s
def PT (X:Cx) (e:Expr) (t:TT):Prop:=
 ∀ (pins:List (Addr×Obj)) (s:Shared) (σ:St) (H:Hp) (Q:Bool->Hp->Prop),Inv X pins σ H s->t σ H Q->wpAny (model X.prog X.w) X.A (isTrue e X.env (eval e X.env)) (TP X pins σ Q) X.xe s
def PW (X:Cx) (e:Expr) (t:TT):Prop:=
 ∀ (whole:Sem Value) (pins:List (Addr×Obj)) (s:Shared) (σ:St) (H:Hp) (Q:Bool->Hp->Prop),Inv X pins σ H s->t σ H Q->wpAny (model X.prog X.w) X.A (isTrue e X.env whole) (TP X pins σ Q) X.xe s
theorem PW.pt {X:Cx} {e:Expr} {t:TT} (h:PW X e t):PT X e t:=h _
def PA (X:Cx) (es:List Expr) (t:TA):Prop:=
 ∀ (pos:Pos) (pins:List (Addr×Obj)) (s:Shared) (σ:St) (H:Hp) (Q:List V->Hp->Prop),Inv X pins σ H s->t σ H Q->wpAny (model X.prog X.w) X.A (spliced (backTo pos (starEach es X.env))) (AP X pins σ Q) X.xe s
def PS (X:Cx) (st:Stmt) (t:TS):Prop:=
 ∀ (pins:List (Addr×Obj)) (s:Shared) (σ:St) (H:Hp) (D:Ends),Inv X pins σ H s->t D σ H->wpAny (model X.prog X.w) X.A (exec st X.env) (SP X pins D) X.xe s
def PSs (X:Cx) (st:List Stmt) (t:TS):Prop:=
 ∀ (pins:List (Addr×Obj)) (s:Shared) (σ:St) (H:Hp) (D:Ends),Inv X pins σ H s->t D σ H->wpAny (model X.prog X.w) X.A (execs st X.env) (SP X pins D) X.xe s
theorem thn {α:Type} {t:Sem α} {Q Q':α->Shared->Prop} {M:Model} {A:Around} {E:Value->Shared->Prop} {s:Shared} (h:wpAny M A t Q E s) (hQ:∀ a s,Q a s->Q' a s):wpAny M A t Q' E s:=Ky h hQ fun _ _ x=>x
end L2
namespace L2
open PySem PySem.Spec PyProof.Rows
section
variable {X:Cx}
noncomputable def tVar (i:Nat):TE:=fun σ H Q=>∃ v,σ[i]? = some (some v)/\Q v H
noncomputable def tC (v:V):TE:=fun _ H Q=>Q v H
theorem zfr {i:Nat} {x:Str} {pos:Pos} (hN:X.N[i]? = some x) (hv:Vis X.env.scope x) (hd:(x == ("__debug__" : Str))=false:=by decide) (hcd:(x == ("__classdict__" : Str))=false:=by decide):PE X (.Name x pos) (tVar i):=by
 intro pins s σ H Q I h;refine xa h fun v e h=>?_;refine xa I.loc fun m hn hl=>?_;refine xa (hl i x v hN e hv) fun u r l=>?_;have fin:EP X pins σ Q u s:=⟨v,H,I,r,h⟩;rcases l with⟨hk,hm⟩ | ⟨hk,c,hc,hcell⟩
 ·exact wpAny_Name (wpAny_loadName_local I.ok.kind hk hn hm fin) hd
 ·rcases hk with hk | hk
  ·exact wpAny_Name (wpAny_loadName_cell I.ok.kind hk hc hcell fin) hd
  ·exact wpAny_Name (wpAny_loadName_free I.ok.kind hk hc hcell fin hcd) hd
theorem pe_int {i j pos}:PE X (.Constant (.int i) j pos) (tC (.int i)):=fun _ _ _ H _ I h=>wpAny_Constant_int ⟨.int i,H,I.tok _,⟨_,rfl⟩,h⟩
theorem pe_bl {b j pos}:PE X (.Constant (.bool b) j pos) (tC (.bl b)):=fun _ _ _ H _ I h=>Constant_bool ⟨.bl b,H,I,rfl,h⟩
theorem pe_non {j pos}:PE X (.Constant .none j pos) (tC .non):=fun _ _ _ H _ I h=>Constant_none ⟨.non,H,I,rfl,h⟩
def Gl (X:Cx) (x:Str):Prop:=X.env.kindOf x=some .globalImplicit
theorem yin {E:Value->Shared->Prop} {pins:List (Addr×Obj)} {s:Shared} {σ:St} {H:Hp} {x:Str} {u:Value} {pos:Pos} {Q:Value->Shared->Prop} (I:Inv X pins σ H s) (hg:Gl X x) (hm:X.mg x=some u) (h:Q u s)
  (hd:(x == ("__debug__" : Str))=false:=by decide):wpAny (model X.prog X.w) X.A (eval (.Name x pos) X.env) Q E s:=
 Vh I.ok.kind hg (Calls.loadGlobal_global (by rw [I.ok.glob];exact I.mod.glob.keeps I.bk) hm h) hd
theorem zeo {E:Value->Shared->Prop} {pins:List (Addr×Obj)} {s:Shared} {σ:St} {H:Hp} {x:Str} {u:Value} {pos:Pos} {Q:Value->Shared->Prop} (I:Inv X pins σ H s) (hg:Gl X x) (hm:X.mg x=none) (hv:bootBuiltins x=some u) (h:Q u s)
  (hn:x ≠ "__name__" := by decide) (hd:(x == ("__debug__" : Str))=false:=by decide):wpAny (model X.prog X.w) X.A (eval (.Name x pos) X.env) Q E s:=by
 refine xa I.mod.blt fun mb h1 h2=>?_;exact Vh I.ok.kind hg (Calls.loadGlobal_builtin (by rw [I.ok.glob];exact I.mod.glob.keeps I.bk) hm (by rw [I.ok.blt];exact h1.keeps I.bk) ((h2 x hn).trans hv) h) hd
theorem yhn {x:Str} {v:V} {u:Value} {pos:Pos} (hg:Gl X x) (hm:X.mg x=none) (hv:bootBuiltins x=some u) (r:RelV v u) (hn:x ≠ "__name__" := by decide) (hd:(x == ("__debug__" : Str))=false:=by decide):PE X (.Name x pos) (tC v):=
 fun _ _ _ H _ I h=>zeo I hg hm hv ⟨v,H,I,r,h⟩ hn hd
variable {a b:Expr} {ta tb:TE} {pos:Pos}
noncomputable def tB (t:TE):TT:=fun σ H Q=>t σ H fun x H1=>∃ c,x=.bl c/\Q c H1
theorem pt_val {e:Expr} {t:TE} (h:PE X e t) (he:∀ whole,isTrue e X.env whole=(do let v <- whole;standAt e.pos;holding [v] (truthy v)):=by intro _;rfl):PT X e (tB t):=by
 intro pins s σ H Q I hw;refine isTrue_plain (thn (h pins s σ H _ I hw) fun v s1 hz=>xc hz fun x H1 I1 r1 q1=>?_) (he _);refine xa q1 fun d qz1 q=>?_;clear q1;subst qz1
 cases r1;exact Qv ⟨H1,I1,q⟩
variable {tA tB':TT} {rest:List Expr}
noncomputable def tAnd (t u:TT):TT:=fun σ H Q=>t σ H fun c H1=>if c=true then u σ H1 Q else Q false H1
noncomputable def tOr (t u:TT):TT:=fun σ H Q=>t σ H fun c H1=>if c=true then Q true H1 else u σ H1 Q
noncomputable def tNot (t:TT):TT:=fun σ H Q=>t σ H fun c H1=>Q (!c) H1
theorem yhd (ha:PT X a tA):PW X (.BoolOp .And [a] pos) tA:=by
 intro wh pins s σ H Q I h;refine isTrue_and (thn (ha pins s σ H Q I h) fun c s1 e=>?_);cases c with
 | true=>exact isTrue_and_nil e
 | false=>exact e
theorem pw_or1 (ha:PT X a tA):PW X (.BoolOp .Or [a] pos) tA:=by
 intro wh pins s σ H Q I h;refine isTrue_or (thn (ha pins s σ H Q I h) fun c s1 e=>?_);cases c with
 | false=>exact isTrue_or_nil e
 | true=>exact e
theorem yec (ha:PT X a tA) (hb:PW X (.BoolOp .And (b::rest) pos) tB'):PW X (.BoolOp .And (a::b::rest) pos) (tAnd tA tB'):=by
 intro wh pins s σ H Q I h;refine isTrue_and (thn (ha pins s σ H _ I h) fun c s1 hz=>xa hz fun H1 I1 q1=>?_);cases c with
 | true=>exact hb wh pins s1 σ H1 Q I1 q1
 | false=>exact⟨H1,I1,q1⟩
theorem pw_or (ha:PT X a tA) (hb:PW X (.BoolOp .Or (b::rest) pos) tB'):PW X (.BoolOp .Or (a::b::rest) pos) (tOr tA tB'):=by
 intro wh pins s σ H Q I h;refine isTrue_or (thn (ha pins s σ H _ I h) fun c s1 hz=>xa hz fun H1 I1 q1=>?_);cases c with
 | true=>exact⟨H1,I1,q1⟩
 | false=>exact hb wh pins s1 σ H1 Q I1 q1
theorem pt_not (ha:PT X a tA):PT X (.UnaryOp .Not a pos) (tNot tA):=by
 intro pins s σ H Q I h;exact isTrue_not (ha pins s σ H (fun c H1=>Q (!c) H1) I h)
noncomputable def tAndV (ta tb:TE):TE:=fun σ H Q=>ta σ H fun x H1=>∃ c,x=.bl c/\if c=true then tb σ H1 Q else Q (.bl false) H1
noncomputable def tOrV (ta tb:TE):TE:=fun σ H Q=>ta σ H fun x H1=>∃ c,x=.bl c/\if c=true then Q (.bl true) H1 else tb σ H1 Q
noncomputable def tNotV (ta:TE):TE:=fun σ H Q=>ta σ H fun x H1=>∃ c,x=.bl c/\Q (.bl (!c)) H1
theorem pe_one {op} {t:TE} (h:PE X a t):PE X (.BoolOp op [a] pos) t:=fun pins s σ H Q I hw=>BoolOp_one (h pins s σ H Q I hw)
theorem yeh (ha:PE X a ta) (hb:PE X (.BoolOp .And (b::rest) pos) tb):PE X (.BoolOp .And (a::b::rest) pos) (tAndV ta tb):=by
 intro pins s σ H Q I h;refine BoolOp_and (thn (ha pins s σ H _ I h) fun v s1 ⟨x,H1,I1,r1,q1⟩=>?_);obtain⟨c,rfl,q1⟩:=q1
 cases r1;refine Qv ?_;cases c with
 | true=>exact hb pins s1 σ H1 Q I1 q1
 | false=>exact⟨.bl false,H1,I1,rfl,q1⟩
theorem pe_or (ha:PE X a ta) (hb:PE X (.BoolOp .Or (b::rest) pos) tb):PE X (.BoolOp .Or (a::b::rest) pos) (tOrV ta tb):=by
 intro pins s σ H Q I h;refine BoolOp_or (thn (ha pins s σ H _ I h) fun v s1 ⟨x,H1,I1,r1,q1⟩=>?_);obtain⟨c,rfl,q1⟩:=q1
 cases r1;refine Qv ?_;cases c with
 | false=>exact hb pins s1 σ H1 Q I1 q1
 | true=>exact⟨.bl true,H1,I1,rfl,q1⟩
theorem pe_not (ha:PE X a ta):PE X (.UnaryOp .Not a pos) (tNotV ta):=by
 intro pins s σ H Q I h;refine UnaryOp_ (thn (ha pins s σ H _ I h) fun v s1 ⟨x,H1,I1,r1,q1⟩=>?_);obtain⟨c,rfl,q1⟩:=q1
 cases r1;exact not_of (Qv ⟨.bl (!c),H1,I1,rfl,q1⟩)
end
end L2
namespace L2
open PySem PySem.Spec PyProof.Rows
def SqL (K:PySem.W.Frag) (H:Hp) (a:Addr) (xs:List V):Prop:=
 Rd H a (.lst xs) \/
  ∃ (o:Obj) (its:Array Value) (n:Nat),K.lookup a=some o/\o.cls=.type "list" /\ o.dict=none/\o.data=.seq its n/\its.size<=sizeLine/\Vals xs its.toList
def SqT (K:PySem.W.Frag) (H:Hp) (a:Addr) (xs:List V):Prop:=
 Rd H a (.tup xs) \/
  ∃ (o:Obj) (its:Array Value) (n:Nat),K.lookup a=some o/\o.cls=.type "tuple" /\ o.data=.seq its n/\its.size<=sizeLine/\Vals xs its.toList
noncomputable def absV:Value->Option V
 | .none=>some .non
 | .bool b=>some (.bl b)
 | .int i _=>some (.int i)
 | .str x _=>some (.str x)
 | .bytes b _=>some (.byt b)
 | .float b _=>some (.flt b)
 | .ref a=>some (.ref a)
 | .type n=>some (.ty n)
 | _=>none
theorem RelV.abs {x:V} {u:Value} (r:RelV x u):absV u=some x:=by
 cases x with
 | non=>cases r;rfl
 | bl _=>cases r;rfl
 | int _=>refine xb r fun t qz1=>?_;clear r;subst qz1;rfl
 | str _=>refine xb r fun t qz1=>?_;clear r;subst qz1;rfl
 | byt _=>refine xb r fun t qz1=>?_;clear r;subst qz1;rfl
 | flt _=>refine xb r fun t qz1=>?_;clear r;subst qz1;rfl
 | ref _=>cases r;rfl
 | ty _=>cases r;rfl
theorem RelV.inj {x y:V} {u:Value} (r:RelV x u) (q:RelV y u):x=y:=Yh (r.abs.symm.trans q.abs)
theorem Vals.inj:∀ {xs ys:List V} {us:List Value},Vals xs us->Vals ys us->xs=ys:=fun {xs ys us} h=>by
 induction h generalizing ys with
 | nil=>intro k;cases k;rfl
 | cons r t ih=>
  intro k;cases k with
  | cons r2 t2=>rw [r.inj r2,ih t2]
section
variable {X:Cx} {pins:List (Addr×Obj)} {σ:St} {H:Hp} {s:Shared} {a:Addr} {xs ys:List V}
theorem SqL.of {K:PySem.W.Frag} (h:H a=some (.lst xs)):SqL K H a xs:=.inl (.inl h)
theorem SqT.of {K:PySem.W.Frag} (h:H a=some (.tup xs)):SqT K H a xs:=.inl (.inl h)
theorem Inv.list (I:Inv X pins σ H s) (h:SqL X.K H a xs):∃ its:List Value,Vals xs its/\PlainL s.heap a its.toArray/\xs.length<=sizeLine:=by
 rcases h with h | ⟨o,its,n,hk,hc,hd,hs,hz,r⟩
 ·refine xz (h.ok I.hok) fun z its n r e=>?_;exact⟨its,r,⟨_,n,e,rfl,rfl,rfl⟩,z⟩
 ·refine⟨its.toList,r,⟨o,n,I.kIn a o hk,hc,hd,by simpa using hs⟩,?_⟩
  have e:=r.length;simp only [Z4] at e;omega
theorem Inv.tuple (I:Inv X pins σ H s) (h:SqT X.K H a xs):∃ its:List Value,Vals xs its/\IsTup s.heap a its.toArray/\xs.length<=sizeLine:=by
 rcases h with h | ⟨o,its,n,hk,hc,hs,hz,r⟩
 ·refine xC (h.ok I.hok) fun z its r p=>?_;exact⟨its,r,p,z⟩
 ·refine⟨its.toList,r,⟨o,I.kIn a o hk,hc,n,by simpa using hs⟩,?_⟩
  have e:=r.length;simp only [Z4] at e;omega
theorem Inv.list_inj (I:Inv X pins σ H s) (h:SqL X.K H a xs) (h':SqL X.K H a ys):xs=ys:=by
 obtain⟨its,r,⟨o,n,e,_,_,d⟩,_⟩:=I.list h
 obtain⟨its',r',⟨o',n',e',_,_,d'⟩,_⟩:=I.list h'
 rw [e] at e';cases e';rw [d] at d';injection d' with d1 _
 have:its=its':=by simpa using congrArg Array.toList d1
 subst this;exact r.inj r'
theorem Inv.tuple_inj (I:Inv X pins σ H s) (h:SqT X.K H a xs) (h':SqT X.K H a ys):xs=ys:=by
 obtain⟨its,r,⟨o,e,_,n,d⟩,_⟩:=I.tuple h
 obtain⟨its',r',⟨o',e',_,n',d'⟩,_⟩:=I.tuple h'
 rw [e] at e';cases e';rw [d] at d';injection d' with d1 _
 have:its=its':=by simpa using congrArg Array.toList d1
 subst this;exact r.inj r'
end
noncomputable abbrev Cx.wish (X:Cx) (E:Value->Shared->Prop):Cx:={X with xe:=E}
noncomputable abbrev Cx.nox (X:Cx):Cx:=X.wish fun _ _=>False
theorem Cx.Ok.wish {X:Cx} (ok:X.Ok) (E:Value->Shared->Prop):(X.wish E).Ok:=
 ⟨ok.mod,ok.kind,ok.glob,ok.blt,ok.above,ok.inj,ok.has,ok.cab,ok.hd,ok.frames,ok.stk,ok.exf,ok.bs,ok.bsz,ok.noex,ok.exfs,ok.funs,ok.frf⟩
theorem Cx.Ok.unwish {X:Cx} {E:Value->Shared->Prop} (ok:(X.wish E).Ok):X.Ok:=
 ⟨ok.mod,ok.kind,ok.glob,ok.blt,ok.above,ok.inj,ok.has,ok.cab,ok.hd,ok.frames,ok.stk,ok.exf,ok.bs,ok.bsz,ok.noex,ok.exfs,ok.funs,ok.frf⟩
section
variable {X:Cx} {pins:List (Addr×Obj)} {σ:St} {H:Hp} {s:Shared} {E:Value->Shared->Prop}
theorem Inv.wish (I:Inv X pins σ H s) (E:Value->Shared->Prop):Inv (X.wish E) pins σ H s:=⟨I.ok.wish E,I.os,I.bare,I.base,I.loc,I.cell,I.free,I.freeC,I.pin,I.hok,I.len⟩
theorem Inv.unwish (I:Inv (X.wish E) pins σ H s):Inv X pins σ H s:=⟨I.ok.unwish,I.os,I.bare,I.base,I.loc,I.cell,I.free,I.freeC,I.pin,I.hok,I.len⟩
theorem SP.unwish {D:Ends} {f:Flow} {s':Shared} (h:SP (X.wish E) pins D f s'):SP X pins D f s':=by
 cases f with
 | next=>refine xi h fun σ' H' I q=>?_;clear h;exact⟨σ',H',I.unwish,q⟩
 | brk=>refine xi h fun σ' H' I q=>?_;clear h;exact⟨σ',H',I.unwish,q⟩
 | cont=>refine xi h fun σ' H' I q=>?_;clear h;exact⟨σ',H',I.unwish,q⟩
 | ret u=>refine xw h fun v σ' H' I r q=>?_;clear h;exact⟨v,σ',H',I.unwish,r,q⟩
theorem PSs.nox {st:List Stmt} {t:TS} (h:PSs X.nox st t):PSs X st t:=fun pins s σ H D I hw=>
 Ky (h pins s σ H D (I.wish _) hw) (fun _ _ q=>q.unwish) fun _ _ z=>False.elim z
end
section
variable {X:Cx} {st:Stmt} {rest:List Stmt} {t u:TS} {e:Expr} {te:TE} {pos:Pos}
noncomputable def tNext:TS:=fun D σ H=>D.nx σ H
noncomputable def tSeq (t u:TS):TS:=fun D σ H=>t {D with nx:=u D} σ H
theorem yhh:PSs X [] tNext:=fun _ _ σ H _ I h=>V4 ⟨σ,H,I,h⟩
theorem zqq (h1:PS X st t) (h2:PSs X rest u):PSs X (st::rest) (tSeq t u):=by
 intro pins s σ H D I h;refine wpAny_execs_cons (thn (h1 pins s σ H {D with nx:=u D} I h) fun f s1 q=>?_);cases f with
 | next=>
  refine xi q fun σ' H' I' q=>?_;exact h2 pins s1 σ' H' D I' q
 | ret v=>exact q
 | brk=>exact q
 | cont=>exact q
theorem Inv.quiet {pins:List (Addr×Obj)} {σ:St} {H:Hp} {s:Shared} (I:Inv X pins σ H s):interactive X.env=false:=by simp [interactive,I.ok.kind]
noncomputable def tDrop (te:TE):TS:=fun D σ H=>te σ H fun _ H1=>D.nx σ H1
theorem zoz (he:PE X e te) (hs:swapsWith e none pos.line X.env=pure false:=by rfl):PS X (.Expr e pos) (tDrop te):=by
 intro pins s σ H D I h;exact wpAny_Expr_any (thn (he pins s σ H _ I h) fun v s1 hz=>xc hz fun x H1 I1 r1 q1=>⟨σ,H1,I1,q1⟩) I.quiet hs
noncomputable def tRet (te:TE):TS:=fun D σ H=>te σ H D.rt
theorem yed (he:PE X e te):PS X (.Return (some e) pos) (tRet te):=by
 intro pins s σ H D I h;exact wpAny_Return_some (thn (he pins s σ H _ I h) fun v s1 hz=>xc hz fun x H1 I1 r1 q1=>⟨x,σ,H1,I1,r1,q1⟩)
noncomputable def tIfS (c:TT) (t u:TS):TS:=fun D σ H=>c σ H fun b H1=>if b=true then t D σ H1 else u D σ H1
theorem ps_if {c:Expr} {a b:List Stmt} {tc:TT} (hc:PT X c tc) (ha:PSs X a t) (hb:PSs X b u):PS X (.If c a b pos) (tIfS tc t u):=by
 intro pins s σ H D I h;refine wpAny_If (thn (hc pins s σ H _ I h) fun d s1 hz=>xa hz fun H1 I1 q1=>?_);cases d with
 | true=>exact ha pins s1 σ H1 D I1 q1
 | false=>exact hb pins s1 σ H1 D I1 q1
noncomputable def tNever:TS:=fun _ _ _=>False
theorem zht {sts:List Stmt}:PSs X sts tNever:=fun _ _ _ _ _ _ h=>h.elim
end
noncomputable abbrev TG:=V->St->Hp->(St->Hp->Prop)->Prop
noncomputable abbrev TGs:=List V->St->Hp->(St->Hp->Prop)->Prop
def PG (X:Cx) (target:Expr) (t:TG):Prop:=
 ∀ (pins:List (Addr×Obj)) (s:Shared) (σ:St) (H:Hp) (v:V) (u:Value) (Q:St->Hp->Prop),Inv X pins σ H s->RelV v u->t v σ H Q ->
  wpAny (model X.prog X.w) X.A (assign target X.env u) (fun _ s'=>∃ σ' H',Inv X pins σ' H' s'/\Q σ' H') X.xe s
def PGs (X:Cx) (ts:List Expr) (t:TGs):Prop:=
 ∀ (pins:List (Addr×Obj)) (s:Shared) (σ:St) (H:Hp) (vs:List V) (us:List Value) (Q:St->Hp->Prop),Inv X pins σ H s->Vals vs us->t vs σ H Q ->
  wpAny (model X.prog X.w) X.A (assignInOrder ((assignEach ts X.env).map (·.2)) us) (fun _ s'=>∃ σ' H',Inv X pins σ' H' s'/\Q σ' H') X.xe s
noncomputable abbrev TSet:=V->V->V->Hp->(Hp->Prop)->Prop
def PSet (X:Cx) (t:TSet):Prop:=
 ∀ (pins:List (Addr×Obj)) (s:Shared) (σ:St) (H:Hp) (o i v:V) (ov iv u:Value) (Q:Hp->Prop),Inv X pins σ H s->RelV o ov->RelV i iv->RelV v u->t o i v H Q ->
  wpAny (model X.prog X.w) X.A (setItem ov iv u) (fun _ s'=>∃ H',Inv X pins σ H' s'/\Q H') X.xe s
section
variable {X:Cx} {pos:Pos}
noncomputable def gName (i:Nat):TG:=fun v σ H Q=>Q (σ.set i (some v)) H
theorem zvu {i:Nat} {x:Str} (hN:X.N.Nodup) (hi:X.N[i]? = some x) (hx:Loc X.env.scope x) (hf:X.fn x=true\/X.env.scope.names.lookup x=some .local:=by first | exact .inl rfl | exact .inr rfl | assumption):PG X (.Name x pos) (gName i):=by
 intro pins s σ H v u Q I r h;exact wpAny_assign_Name (zgp I hN hi hx r (fun s' I'=>⟨_,H,I',h⟩) hf)
noncomputable def gNil:TGs:=fun vs σ H Q=>vs=[]/\Q σ H
noncomputable def gCons (t:TG) (u:TGs):TGs:=fun vs σ H Q=>∃ v r,vs=v::r/\t v σ H fun σ' H'=>u r σ' H' Q
theorem zvt:PGs X [] gNil:=by
 intro pins s σ H vs us Q I r h;obtain⟨e,h⟩:=h
 subst e;cases r;exact assignInOrder_nil ⟨σ,H,I,h⟩
theorem zqu {e:Expr} {es:List Expr} {t:TG} {u:TGs} (h1:PG X e t) (h2:PGs X es u)
  (hs:(assignEach (e::es) X.env).map (·.2)=assign e X.env::(assignEach es X.env).map (·.2):=by rfl):PGs X (e::es) (gCons t u):=by
 intro pins s σ H vs us Q I r h;obtain⟨v,vr,e1,h⟩:=h
 subst e1;cases r with
 | cons r rr=>
  rw [hs];refine U7 (thn (h1 pins s σ H _ _ _ I r h) fun _ s1 ⟨σ1,H1,I1,q1⟩=>?_);exact h2 pins s1 σ1 H1 _ _ Q I1 rr q1
noncomputable def gTup (K:PySem.W.Frag) (n:Nat) (t:TGs):TG:=fun v σ H Q=>∃ a xs,v=.ref a/\SqT K H a xs/\xs.length=n/\t xs σ H Q
theorem yef {es:List Expr} {k:Nat} {t:TGs} {n:Nat} (hc:X.calm=true) (h:PGs X es t)
  (hn:(assignEach es X.env).length=n:=by rfl) (hst:(assignEach es X.env).findIdx? (·.1)=none:=by rfl):PG X (.Tuple es k pos) (gTup X.K n t):=by
 intro pins s σ H v u Q I r hw;obtain⟨a,xs,e1,hq,hl,hw⟩:=hw
 subst e1;cases r;obtain⟨its,rv,ht,hz⟩:=I.tuple hq
 refine assign_Tuple_tuple (I.ok.hd hc) ht (by simp [hn,<- hl,rv.length]) hst fun h' hx=>?_;have I1:Inv X pins σ H {s with heap:=h'}:=I.kept (t':=s.toks) fun b o e=>hx b o (Z1 (Zo e)) e
 exact h pins _ σ H xs _ Q I1 (by simpa using rv) hw
noncomputable def gSub (to ti:TE) (t:TSet):TG:=fun v σ H Q=>to σ H fun o H1=>ti σ H1 fun i H2=>t o i v H2 fun H3=>Q σ H3
theorem pg_sub {o i:Expr} {to ti:TE} {t:TSet} (ho:PE X o to) (hi:PE X i ti) (hs:PSet X t)
  (ha:∀ v,assign (.Subscript o i pos) X.env v=(do
   let ov <- holding [v] (eval o X.env)
   let iv <- holding [v,ov] (eval i X.env)
   standAt pos
   holding [v,ov,iv] (setItem ov iv v)
   release [v,ov,iv] []):=by intro _;rfl):PG X (.Subscript o i pos) (gSub to ti t):=by
 intro pins s σ H v u Q I r h;rw [ha];refine Zc (Yf (thn (ho pins s σ H _ I h) fun ov s1 hz=>xc hz fun x H1 I1 r1 q1=>?_));refine Zc (Yf (thn (hi pins s1 σ H1 _ I1 q1) fun iv s2 hz=>xc hz fun y H2 I2 r2 q2=>?_));refine Zc (Jm (Zc (Yf (thn (hs pins s2 σ H2 x y v ov iv u _ I2 r1 r2 r q2) fun _ s3 hz=>xa hz fun H3 I3 q3=>?_))));exact wpAny_release ⟨σ,H3,I3,q3⟩
noncomputable def tAsg (te:TE) (g:TG):TS:=fun D σ H=>te σ H fun x H1=>g x σ H1 D.nx
theorem yee {tg e:Expr} {te:TE} {g:TG} (he:PE X e te) (hg:PG X tg g) (hs:swapsWithSole [tg] e pos.line X.env=pure false:=by rfl) (hw:swappedStores [tg] e X.env=pure none:=by rfl)
  (h1:(assignEach [tg] X.env).map (·.2)=[assign tg X.env]:=by rfl):PS X (.Assign [tg] e pos) (tAsg te g):=by
 intro pins s σ H D I h;refine wpAny_Assign_stores (thn (he pins s σ H _ I h) fun v s1 hz=>xc hz fun x H1 I1 r1 q1=>?_) hs hw;rw [h1];exact thn (hg pins s1 σ H1 x v _ I1 r1 q1) fun _ s2 q=>q
theorem ps_set {i:Nat} {x:Str} {e:Expr} {te:TE} {pos':Pos} (hN:X.N.Nodup) (hi:X.N[i]? = some x) (hx:Loc X.env.scope x) (he:PE X e te) (hs:swapsWith e (some (.Name x pos')) pos.line X.env=pure false:=by rfl) (hf:X.fn x=true\/X.env.scope.names.lookup x=some .local:=by first | exact .inl rfl | exact .inr rfl | assumption) :
  PS X (.Assign [.Name x pos'] e pos) (tAsg te (gName i)):=by
 intro pins s σ H D I h;refine wpAny_Assign_Name (thn (he pins s σ H _ I h) fun v s1 hz=>xc hz fun y H1 I1 r1 q1=>?_) hs;exact zgp I1 hN hi hx r1 (fun s2 I2=>⟨_,H1,I2,q1⟩) hf
noncomputable def tPar (i j:Nat) (ta:TA):TS:=fun D σ H=>ta σ H fun vs H1=>∃ v w,vs=[v,w]/\D.nx ((σ.set i (some v)).set j (some w)) H1
theorem ps_par {i j:Nat} {x y:Str} {a b:Expr} {ta:TA} {px py pt:Pos} {kt k2 pt2} (hc:X.calm=true) (hN:X.N.Nodup) (hi:X.N[i]? = some x) (hj:X.N[j]? = some y) (hij:i≠j)
  (hx:X.env.scope.names.lookup x=some .local) (hy:X.env.scope.names.lookup y=some .local) (ha:PA X [a,b] ta)
  (hw:swappedStores [.Tuple [.Name x px,.Name y py] kt pt] (.Tuple [a,b] k2 pt2) X.env=pure (some [x,y]))
  (hs:swapsWithSole [.Tuple [.Name x px,.Name y py] kt pt] (.Tuple [a,b] k2 pt2) pos.line X.env=pure false:=by rfl) :
  PS X (.Assign [.Tuple [.Name x px,.Name y py] kt pt] (.Tuple [a,b] k2 pt2) pos) (tPar i j ta):=by
 intro pins s σ H D I h;rw [exec_Assign_arm];refine Zc (Jm ?_);rw [hs];refine Zc (Zg ?_);rw [if_neg (by decide)];refine Zc (Tuple_ (thn (ha _ pins s σ H _ I h) fun us s1 ⟨vs,H1,I1,r1,q1⟩=>?_));obtain⟨v,w,e1,q1⟩:=q1
 subst e1;obtain⟨u1,u2,rfl,rv,rw'⟩:∃ u1 u2,us=[u1,u2]/\RelV v u1/\RelV w u2:=by
  cases r1 with
  | cons p q=>
   cases q with
   | cons p' q'=>
    cases q';exact⟨_,_,rfl,p,p'⟩
 refine Qx ?_ (by show 2<=sizeLine;decide);have I2:Inv X pins σ H1 {s1 with heap:=s1.heap.push {cls:=.type "tuple", data:=.seq [u1,u2].toArray} }:=I1.kept (t':=s1.toks) fun b o e=>Zf _ e
 rw [hw];refine Zc (Zg ?_);show wpAny (model X.prog X.w) X.A (do rule "assign.swapped-stores"; let items <- unpackItems (.ref s1.heap.objs.size) 2 none;assignInOrder [fun v=>bindName X.env y v,fun v=>bindName X.env x v] items.reverse;pure Flow.next) _ _ _;refine Zc (Vi (Zc (unpackItems_tuple (items:=#[u1,u2]) (I.ok.hd hc) (IsTup.new s1.heap _) fun h' hx'=>?_)));have I3:=I2.kept (h':=h') (t':=s1.toks) fun b o e=>hx' b o (Z1 (Zo e)) e
 show wpAny _ _ (assignInOrder [fun v=>bindName X.env y v,fun v=>bindName X.env x v] [u2,u1] >>= fun _=>pure Flow.next) _ _ _;refine Zc (U7 (wpAny_bindName (zgp I3 hN hj (.inl hy) rw' (fun s2 I4=>?_) (.inr hy))));refine U7 (wpAny_bindName (zgp I4 hN hi (.inl hx) rv (fun s3 I5=>assignInOrder_nil (Zg ?_)) (.inr hx)));rw [List.set_comm _ _ (Wh hij)] at I5;exact⟨_,H1,I5,q1⟩
end
section
variable {X:Cx} {pos:Pos}
noncomputable def tWhile (c:TT) (tb:TS):TS:=fun D σ H=>∃ W:Nat->St->Hp->Prop,(∃ m,W m σ H)/\∀ m σ H,W m σ H ->
 c σ H fun b H1=>if b=true then ∃ N:St->Hp->Prop,(∀ σ' H',N σ' H'->∃ m',m'<m/\W m' σ' H')/\tb {D with nx:=N,ct:=N,bk:=D.nx} σ H1 else D.nx σ H1
theorem yaw {c:Expr} {body:List Stmt} {tc:TT} {tb:TS} (hp:PassesOwn (model X.prog X.w) X.A X.env X.xe) (hc:PT X c tc) (hb:PSs X body tb):PS X (.While c body [] pos) (tWhile tc tb):=by
 intro pins s σ H D I h;obtain⟨W,⟨m0,w0⟩,turn⟩:=h
 refine wpAny_While (codeAny_whileLoop (fun n s'=>∃ σ' H',Inv X pins σ' H' s'/\W n σ' H') ?_ m0 ⟨σ,H,I,w0⟩);rintro n s1 ⟨σ1,H1,I1,w1⟩
 refine Qt hp (thn (hc pins s1 σ1 H1 _ I1 (turn n σ1 H1 w1)) fun b s2 hz=>xa hz fun H2 I2 q2=>?_);cases b with
 | true=>
  refine xa q2 fun N hN q2=>?_;rw [if_pos rfl];refine Qt hp (thn (hb pins s2 σ1 H2 _ I2 q2) fun f s3 q3=>?_);cases f with
  | next=>
   refine xi q3 fun σ3 H3 I3 n3=>?_;clear q3
   refine xa (hN σ3 H3 n3) fun m' hm w3=>?_;exact⟨m',hm,σ3,H3,I3,w3⟩
  | cont=>
   refine xi q3 fun σ3 H3 I3 n3=>?_;clear q3
   refine xa (hN σ3 H3 n3) fun m' hm w3=>?_;exact⟨m',hm,σ3,H3,I3,w3⟩
  | brk=>exact q3
  | ret v=>exact q3
 | false=>
  rw [if_neg Zw];exact V4 ⟨σ1,H2,I2,q2⟩
end
structure It where
 go:Nat->Hp->Prop
 yld:Nat->Hp->V->Hp->Prop
 stop:Nat->Hp->Prop
def FpOk (X:Cx) (pins:List (Addr×Obj)) (H:Hp) (b:Addr):Prop:=
 H b=none/\b≠X.env.locals/\b∉X.fs/\(b∈X.ex\/X.s₀.heap.objs.size<=b)/\(∀ x c,X.env.cells.lookup x=some c->c≠b)/\∀ p∈X.pn++pins,p.1≠b
theorem Inv.fpOk {X:Cx} {pins:List (Addr×Obj)} {σ:St} {H H':Hp} {s:Shared} {b:Addr} (I:Inv X pins σ H s) (hb:s.heap.objs.size<=b) (hn:H' b=none):FpOk X pins H' b:=by
 refine⟨hn,Z8 (Zp I.lt hb),I.nofs hb,.inr (Y3 I.sz hb),fun x c e z=>?_,fun p hp z=>?_⟩
 ·refine xb (I.cell x c e) fun v q=>?_;exact absurd (Zp q.lt (by rw [z];exact hb)) (Nat.lt_irrefl _)
 ·exact absurd (Zp (Zo (I.pin p hp).1) (by rw [z];exact hb)) (Nat.lt_irrefl _)
structure Turn (P:Program) (w:World) (K:PySem.W.Frag) (tg:Expr) (J:It) (fp:List Addr) (it:Addr) (tn:Nat->Heap->Prop):Prop where
 mem:it∈fp
 obj:∀ i h,tn i h->∀ b∈fp,∃ o,h.get? b=some o/\∀ v,o.data ≠ .cell v
 keep:∀ i h h',tn i h->(∀ b∈fp,∀ o,h.get? b=some o->h'.get? b=some o)->tn i h'
 item:∀ (X:Cx),X.prog=P->X.w=w->X.K=K->X.calm=true->∀ (i:Nat) (pins:List (Addr×Obj)) (s:Shared) (σ:St) (H:Hp) (E:Value->Shared->Prop),Inv X pins σ H s->(∀ b∈fp,FpOk X pins H b)->tn i s.heap->J.go i H ->
  wpAny (model P w) X.A (pyNext (.ref it)) (fun r s1=>∃ u,r=some u /\
   wpAny (model P w) X.A (letOwnedTupleGo tg (.ref it) u) (fun _ s2=>∃ x H',Inv X pins σ H' s2/\RelV x u/\J.yld i H x H'/\tn (i+1) s2.heap/\∀ b∈fp,H' b=none) E s1) E s
 done:∀ (X:Cx),X.prog=P->X.w=w->X.K=K->X.calm=true->∀ (i:Nat) (pins:List (Addr×Obj)) (s:Shared) (σ:St) (H:Hp) (E:Value->Shared->Prop),Inv X pins σ H s->(∀ b∈fp,FpOk X pins H b)->tn i s.heap->J.stop i H ->
  wpAny (model P w) X.A (pyNext (.ref it)) (fun r s1=>r=none/\Inv X pins σ H s1) E s
 self:∀ (A:Around) (i:Nat) (s:Shared) (Q:Value->Shared->Prop) (E:Value->Shared->Prop),tn i s.heap->Q (.ref it) s->wpAny (model P w) A (pyIter (.ref it)) Q E s
noncomputable abbrev TI:=St->Hp->(It->Hp->Prop)->Prop
def PIE (X:Cx) (pins:List (Addr×Obj)) (σ:St) (tg:Expr) (R:It->Hp->Prop) (itv:Value) (s2:Shared):Prop:=
 ∃ (it:Addr) (fp:List Addr) (tn:Nat->Heap->Prop) (J:It) (H':Hp),itv=.ref it/\Inv X pins σ H' s2/\Turn X.prog X.w X.K tg J fp it tn/\tn 0 s2.heap/\(∀ b∈fp,FpOk X pins H' b)/\R J H'
def PI (X:Cx) (tg iter:Expr) (wi:TI):Prop:=
 ∀ (pins:List (Addr×Obj)) (s:Shared) (σ:St) (H:Hp) (R:It->Hp->Prop),Inv X pins σ H s->wi σ H R ->
  wpAny (model X.prog X.w) X.A (eval iter X.env) (fun v s1=>wpAny (model X.prog X.w) X.A (pyIter v) (PIE X pins σ tg R) X.xe s1) X.xe s
theorem yiv {M:Model} {A:Around} {E:Value->Shared->Prop} {s:Shared} {tg:Expr} {it:Addr} {u:Value} {o:Obj} {n:String} {vs:Array Value} {Q:Unit->Shared->Prop} (ho:s.heap.get? it=some o) (hc:o.cls=.type n) (hd:o.data=.fields vs)
    (hn:["enumerate", "zip", "dict_itemiterator", "dict_reverseitemiterator", "odict_iterator", "itertools.zip_longest", "itertools.pairwise"].contains n=false) (hQ:Q () s):wpAny M A (letOwnedTupleGo tg (.ref it) u) Q E s:=by
  unfold letOwnedTupleGo;cases tg <;> first
    | exact Zg hQ
    | (cases u <;> first
        | exact Zg hQ
        | (refine Zc (wpAny_load ho ?_)
           rw [hc,hd];show wpAny M A (if (["enumerate", "zip", "dict_itemiterator", "dict_reverseitemiterator", "odict_iterator", "itertools.zip_longest", "itertools.pairwise"].contains n && vs[0]? == some (rawInt _))=true then _ else _) Q E s;rw [if_neg (by intro h;rw [hn,Bool.false_and] at h;cases h)];exact Zg hQ))
noncomputable def Itl (K:PySem.W.Frag) (a:Addr):It:=
 ⟨fun i H=>∃ xs x,SqL K H a xs/\xs[i]? = some x,fun i H x H'=>H'=H/\∀ xs,SqL K H a xs->xs[i]? = some x,fun i H=>∃ xs,SqL K H a xs/\xs.length<=i⟩
noncomputable def Itt (K:PySem.W.Frag) (a:Addr):It:=
 ⟨fun i H=>∃ xs x,SqT K H a xs/\xs[i]? = some x,fun i H x H'=>H'=H/\∀ xs,SqT K H a xs->xs[i]? = some x,fun i H=>∃ xs,SqT K H a xs/\xs.length<=i⟩
noncomputable def Itr (lo:Int) (n:Nat):It:=⟨fun i _=>i<n,fun i H x H'=>H'=H/\x=.int (lo+i),fun i _=>n<=i⟩
theorem zuk {P:Program} {w:World} {K:PySem.W.Frag} {tg:Expr} (a it:Addr):Turn P w K tg (Itl K a) [it] it (fun i h=>h.IsListIter it a i) where
 mem:=by simp
 obj:=fun i h st b hb=>by
  have e:b=it:=by simpa using hb
  subst e;refine xh st fun o e c d=>?_;clear st
  exact⟨o,e,fun v z=>by rw [d] at z;cases z⟩
 keep:=fun i h h' st k=>st.at fun o e=>k it (by simp) o e
 item:=by
  intro X hP hw hK hc i pins s σ H E I hf st hg;subst hP hw hK;refine xi hg fun xs x hq hx=>?_;clear hg
  refine xh (I.list hq) fun its rv p hz=>?_;refine xa (rv.get hx) fun u hu ru=>?_;refine xt (hf it (by simp)) fun f0 f1 f2 f3 f4 f5=>?_;refine Gz st p.isList (x:=u) (by simpa using hu) fun h' st' sb=>?_;have I1:Inv X pins σ H {s with heap:=h'}:=I.turned (t':=s.toks) (fun b o hb e=>(sb.2 b hb).trans e) f0 f1 f3 f4 f5;refine xh (id st') fun o e c d=>?_;exact⟨u,rfl,yiv (s:={s with heap:=h'}) e c d (by decide) ⟨x,H,I1,ru,⟨rfl,fun ys hy=>by rw [I.list_inj hy hq];exact hx⟩,st',fun b hb=>(hf b hb).1⟩⟩
 done:=by
  intro X hP hw hK hc i pins s σ H E I hf st hg;subst hP hw hK;refine xa hg fun xs hq hx=>?_;clear hg
  refine xh (I.list hq) fun its rv p hz=>?_;refine xt (hf it (by simp)) fun f0 f1 f2 f3 f4 f5=>?_;have hl:=rv.length;exact G9 (I.ok.hd hc) st p.isList (by simp;omega) fun h' eb=>⟨rfl,I.turned (t':=s.toks) (fun b o hb e=>eb b o hb e) f0 f1 f3 f4 f5⟩
 self:=fun _ _ _ _ _ st h=>wpAny_pyIter_listiter st h
theorem zso {P:Program} {w:World} {K:PySem.W.Frag} {tg:Expr} (a it:Addr):Turn P w K tg (Itt K a) [it] it (fun i h=>h.IsTupleIter it a i) where
 mem:=by simp
 obj:=fun i h st b hb=>by
  have e:b=it:=by simpa using hb
  subst e;refine xh st fun o e c d=>?_;clear st
  exact⟨o,e,fun v z=>by rw [d] at z;cases z⟩
 keep:=fun i h h' st k=>st.at fun o e=>k it (by simp) o e
 item:=by
  intro X hP hw hK hc i pins s σ H E I hf st hg;subst hP hw hK;refine xi hg fun xs x hq hx=>?_;clear hg
  refine xh (I.tuple hq) fun its rv p hz=>?_;refine xa (rv.get hx) fun u hu ru=>?_;refine xt (hf it (by simp)) fun f0 f1 f2 f3 f4 f5=>?_;refine wpAny_pyNext_tuple_item st (show s.heap.IsTuple a its.toArray from p) (x:=u) (by simpa using hu) fun h' st' sb=>?_;have I1:Inv X pins σ H {s with heap:=h'}:=I.turned (t':=s.toks) (fun b o hb e=>(sb.2 b hb).trans e) f0 f1 f3 f4 f5;refine xh (id st') fun o e c d=>?_;exact⟨u,rfl,yiv (s:={s with heap:=h'}) e c d (by decide) ⟨x,H,I1,ru,⟨rfl,fun ys hy=>by rw [I.tuple_inj hy hq];exact hx⟩,st',fun b hb=>(hf b hb).1⟩⟩
 done:=by
  intro X hP hw hK hc i pins s σ H E I hf st hg;subst hP hw hK;refine xa hg fun xs hq hx=>?_;clear hg
  refine xh (I.tuple hq) fun its rv p hz=>?_;refine xt (hf it (by simp)) fun f0 f1 f2 f3 f4 f5=>?_;have hl:=rv.length;exact wpAny_pyNext_tuple_end (I.ok.hd hc) st (show s.heap.IsTuple a its.toArray from p) (by simp;omega) fun h' eb=>⟨rfl,I.turned (t':=s.toks) (fun b o hb e=>eb b o hb e) f0 f1 f3 f4 f5⟩
 self:=fun _ _ _ _ _ st h=>wpAny_pyIter_tupleiter st h
theorem zsp {P:Program} {w:World} {K:PySem.W.Frag} {tg:Expr} (it:Addr) (lo:Int) (n:Nat):Turn P w K tg (Itr lo n) [it] it (fun i h=>IsRangeIter h it (lo+(i:Nat)*1) ((n:Int)-(i:Nat)) 1) where
 mem:=by simp
 obj:=fun i h st b hb=>by
  have e:b=it:=by simpa using hb
  subst e;exact⟨_,st,fun v z=>by
   have z':Data.fields _=Data.cell v:=z;cases z'⟩
 keep:=fun i h h' st k=>k it (by simp) _ st
 item:=by
  intro X hP hw hK hc i pins s σ H E I hf st hg;subst hP hw hK;refine xt (hf it (by simp)) fun f0 f1 f2 f3 f4 f5=>?_;have W:=Walks.range (prog:=X.prog) (w:=X.w) (I.ok.hd hc) it lo 1 n;refine W.item i s _ _ hg st fun v h' tk hv st' kk=>?_;refine xb hv fun t qz1=>?_;clear hv;subst qz1
  have I1:Inv X pins σ H {s with heap:=h',toks:=tk}:=I.turned (fun b o hb e=>kk b o (by simpa using hb) e) f0 f1 f3 f4 f5;refine⟨_,rfl,yiv (s:={s with heap:=h',toks:=tk}) (n := "range_iterator") st' rfl rfl (by decide) ⟨.int (lo+i),H,I1,⟨t,?_⟩,⟨rfl,rfl⟩,st',fun b hb=>(hf b hb).1⟩⟩
  rw [Vq]
 done:=by
  intro X hP hw hK hc i pins s σ H E I hf st hg;subst hP hw hK;refine xt (hf it (by simp)) fun f0 f1 f2 f3 f4 f5=>?_;exact wpAny_pyNext_range_end (I.ok.hd hc) st (by have:n<=i:=hg;omega) fun h' eb=>⟨rfl,I.turned (t':=s.toks) (fun b o hb e=>eb b o hb e) f0 f1 f3 f4 f5⟩
 self:=fun _ _ _ _ _ st h=>wpAny_pyIter_rangeiter st h
end L2
namespace L2
open PySem PySem.Spec PyProof.Rows
section
variable {X:Cx} {tg:Expr}
noncomputable def iList (K:PySem.W.Frag) (tl:TE):TI:=fun σ H R=>tl σ H fun x H1=>∃ a,x=.ref a/\(∃ xs,SqL K H1 a xs)/\R (Itl K a) H1
noncomputable def iTup (K:PySem.W.Frag) (tl:TE):TI:=fun σ H R=>tl σ H fun x H1=>∃ a,x=.ref a/\(∃ xs,SqT K H1 a xs)/\R (Itt K a) H1
theorem zpa {l:Expr} {tl:TE} (hl:PE X l tl):PI X tg l (iList X.K tl):=by
 intro pins s σ H R I h;refine thn (hl pins s σ H _ I h) fun v s1 hz=>xc hz fun x H1 I1 r1 q1=>?_
 obtain⟨a,e,⟨xs,hq⟩,q⟩:=q1
 subst e;cases r1;refine xh (I1.list hq) fun its rv p hz=>?_;refine Jh p.isList ?_;refine⟨s1.heap.objs.size,[s1.heap.objs.size],_,_,H1,rfl,I1.kept (t':=s1.toks) fun b o e=>Zf _ e,zuk a _,⟨_,Z3 _ rfl,rfl,rfl⟩,fun b hb=>?_,q⟩
 have e:b=s1.heap.objs.size:=by simpa using hb
 subst e;exact I1.fpOk (Zh _) (I1.hok.fresh (Zh _))
theorem zvs {l:Expr} {tl:TE} (hl:PE X l tl):PI X tg l (iTup X.K tl):=by
 intro pins s σ H R I h;refine thn (hl pins s σ H _ I h) fun v s1 hz=>xc hz fun x H1 I1 r1 q1=>?_
 obtain⟨a,e,⟨xs,hq⟩,q⟩:=q1
 subst e;cases r1;refine xh (I1.tuple hq) fun its rv p hz=>?_;refine wpAny_pyIter_tuple (show s1.heap.IsTuple a its.toArray from p) ?_;refine⟨s1.heap.objs.size,[s1.heap.objs.size],_,_,H1,rfl,I1.kept (t':=s1.toks) fun b o e=>Zf _ e,zso a _,⟨_,Z3 _ rfl,rfl,rfl⟩,fun b hb=>?_,q⟩
 have e:b=s1.heap.objs.size:=by simpa using hb
 subst e;exact I1.fpOk (Zh _) (I1.hok.fresh (Zh _))
theorem zqo {pins:List (Addr×Obj)} {σ:St} {H:Hp} {s:Shared} {R:It->Hp->Prop} {E:Value->Shared->Prop} {lo hi:Int} {t u v:Tok} {tk:Nat} (I:Inv X pins σ H s) (h1 : -(2^62)<=lo) (h2:lo<2^62) (h3 : -(2^62)<=hi) (h4:hi<2^62)
  (q:R (Itr lo (hi-lo).toNat) H):wpAny (model X.prog X.w) X.A (pyIter (.ref s.heap.objs.size)) (PIE X pins σ tg R) E {s with heap:=s.heap.push {cls:=.type "range", data:=.fields #[.int lo t,.int hi u,.int 1 v]},toks:=tk}:=by
 refine wpAny_pyIter_range (IsRange.new ..) (small_one h1 h2 h3 h4) ?_;have I1:Inv X pins σ H {s with heap:=s.heap.push {cls:=.type "range", data:=.fields #[.int lo t,.int hi u,.int 1 v]},toks:=tk}:=I.kept fun b o e=>Zf _ e
 refine⟨(s.heap.push {cls:=.type "range", data:=.fields #[.int lo t,.int hi u,.int 1 v]}).objs.size,[(s.heap.push {cls:=.type "range", data:=.fields #[.int lo t,.int hi u,.int 1 v]}).objs.size],_,_,H,rfl,
  I1.kept (t':=tk) fun b o e=>Zf _ e,zsp _ lo (hi-lo).toNat,?_,fun b hb=>?_,q⟩
 ·have e1:lo+((0:Nat):Int)*1=lo:=by simp
  have e2:(((hi-lo).toNat:Nat):Int)-((0:Nat):Int)=Builtin.Range.rangeSize lo hi 1:=by rw [rangeSize_one];split <;> omega
  show IsRangeIter _ _ (lo+((0:Nat):Int)*1) ((((hi-lo).toNat:Nat):Int)-((0:Nat):Int)) 1;rw [e1,e2];exact Z3 _ rfl
 ·have e:b=(s.heap.push {cls:=.type "range", data:=.fields #[.int lo t,.int hi u,.int 1 v]}).objs.size:=by simpa using hb
  subst e;exact I1.fpOk (Zh _) (I1.hok.fresh (Zh _))
noncomputable def iRng1 (ta:TA):TI:=fun σ H R=>ta σ H fun vs H1=>∃ j:Int,vs=[.int j] /\ -(2^62)<=j/\j<2^62/\R (Itr 0 j.toNat) H1
noncomputable def iRng2 (ta:TA):TI:=fun σ H R=>ta σ H fun vs H1=>∃ i j:Int,vs=[.int i,.int j]/\(-(2^62)<=i/\i<2^62 /\ -(2^62)<=j/\j<2^62)/\R (Itr i (j-i).toNat) H1
theorem znb {a:Expr} {ta:TA} {p pos:Pos} (hg:Gl X "range") (hm:X.mg "range" = none) (ha:PA X [a] ta) (hs:starEach [a] X.env=[(false,eval a X.env)]:=by rfl):PI X tg (.Call (.Name "range" p) [a] [] pos) (iRng1 ta):=by
 intro pins s σ H R I h;refine Call_ (zeo I hg hm boot_range (Wd (thn (ha pos pins s σ H _ I h) fun us s1 ⟨vs,H1,I1,r1,q1⟩=>?_) hs rfl));obtain⟨j,e,q1,q2,q⟩:=q1
 subst e;cases r1 with
 | cons r rr=>
  cases rr;obtain⟨t,rfl⟩:=r
  exact call_range_1 (zqo I1 (by omega) (by omega) q1 q2 (by simpa using q))
theorem zna {a b:Expr} {ta:TA} {p pos:Pos} (hg:Gl X "range") (hm:X.mg "range" = none) (ha:PA X [a,b] ta) (hs:starEach [a,b] X.env=[(false,eval a X.env),(false,eval b X.env)]:=by rfl) (hs2:starEach [b] X.env=[(false,eval b X.env)]:=by rfl) :
  PI X tg (.Call (.Name "range" p) [a,b] [] pos) (iRng2 ta):=by
 intro pins s σ H R I h;refine Call_ (zeo I hg hm boot_range (Wd (thn (ha pos pins s σ H _ I h) fun us s1 hz=>xc hz fun vs H1 I1 r1 q1=>?_) (by rw [hs,hs2]) (by rw [hs2];rfl)));obtain⟨i,j,e,⟨q1,q2,q3,q4⟩,q⟩:=q1
 subst e;cases r1 with
 | cons r rr=>
  cases rr with
  | cons r' rr=>
   cases rr;refine xb r fun t qz1=>?_;clear r;subst qz1
   refine xb r' fun t' qz1=>?_;clear r';subst qz1
   exact call_range_2 (zqo I1 q1 q2 q3 q4 q)
noncomputable def tFor (wi:TI) (g:TG) (tb:TS):TS:=fun D σ H=>wi σ H fun J H1=>∃ W:Nat->Nat->St->Hp->Prop,(∃ m,W 0 m σ H1)/\∀ i m σ H,W i m σ H ->
 (J.stop i H/\D.nx σ H)\/(J.go i H/\∃ N:St->Hp->Prop,(∀ σ' H',N σ' H'->∃ m',m'<m/\W (i+1) m' σ' H')/\∀ x H',J.yld i H x H'->g x σ H' fun σ2 H2=>tb {D with nx:=N,ct:=N,bk:=D.nx} σ2 H2)
noncomputable def zjo (fp:List Addr) (h:Heap):List (Addr×Obj):=fp.filterMap fun b=>(h.get? b).map fun o=>(b,o)
theorem zdl {fp:List Addr} {h:Heap} {b:Addr} {o:Obj} (hb:b∈fp) (e:h.get? b=some o):(b,o)∈zjo fp h:=Kb.mpr ⟨b,hb,by rw [e];rfl⟩
theorem zvy {fp:List Addr} {h:Heap} {p:Addr×Obj} (hp:p∈zjo fp h):p.1∈fp/\h.get? p.1=some p.2:=by
 refine xa (Kb.mp hp) fun b hb e=>?_;cases q:h.get? b with
 | none=>rw [q] at e;cases e
 | some o=>
  rw [q] at e;have e':(b,o)=p:=Yh e;subst e';exact⟨hb,q⟩
theorem Inv.pinned {pins:List (Addr×Obj)} {σ:St} {H:Hp} {s:Shared} {fp:List Addr} (I:Inv X pins σ H s) (hf:∀ b∈fp,FpOk X pins H b) (ho:∀ b∈fp,∃ o,s.heap.get? b=some o/\∀ v,o.data ≠ .cell v):Inv X (pins++zjo fp s.heap) σ H s:=
 I.pins_of fun p hp=>(Yw.mp hp).elim (fun z=>I.pin p (Yo _ z)) fun z=>by
  refine xg (zvy z) fun hb e=>?_;refine xk (hf p.1 hb) fun f0 f1 f2 _=>?_;refine xa (ho p.1 hb) fun o e' d=>?_;rw [e] at e';cases e';exact⟨e,f0,f1,f2,d⟩
theorem Inv.unpinned {pins pl:List (Addr×Obj)} {σ:St} {H:Hp} {s:Shared} (I:Inv X (pins++pl) σ H s):Inv X pins σ H s:=I.pins_of fun p hp=>I.pin p (Yo _ (Qc _ hp))
theorem ps_for {iter:Expr} {body:List Stmt} {wi:TI} {g:TG} {tb:TS} {pos:Pos} (hp:PassesOwn (model X.prog X.w) X.A X.env X.xe) (hc:X.calm=true) (hi:PI X tg iter wi) (hg:PG X tg g) (hb:PSs X body tb)
  (hs:∀ x,foldedSetIterable iter X.env x=pure x:=by intro _;rfl):PS X (.For tg iter body [] pos) (tFor wi g tb):=by
 intro pins s σ H D I h;refine wpAny_For (thn (hi pins s σ H _ I h) fun v s1 h1=>thn h1 fun itv s2 h2=>?_) hs;obtain⟨it,fp,tn,J,H2,e,I2,T,st2,f2,W,⟨m0,w0⟩,turn⟩:=h2
 subst e;have stat:∀ {H':Hp},(∀ b∈fp,H' b=none)->∀ b∈fp,FpOk X pins H' b:=fun hn b hb=>⟨hn b hb,(f2 b hb).2⟩
 refine codeAny_forLoop_any (fun n s'=>∃ i σ' H',Inv X pins σ' H' s'/\tn i s'.heap/\(∀ b∈fp,H' b=none)/\W i n σ' H') ?_ m0 ⟨0,σ,H2,I2,st2,fun b hb=>(f2 b hb).1,w0⟩;rintro n s3 ⟨i,σ3,H3,I3,st3,fr3,w3⟩
 rcases turn i n σ3 H3 w3 with⟨stop,qn⟩ | ⟨go,N,hN,step⟩
 ·refine Qt hp (thn (T.done X rfl rfl rfl hc i pins s3 σ3 H3 X.xe I3 (stat fr3) st3 stop) fun r s4 hz=>xg hz fun hr I4=>?_);subst hr;exact V4 ⟨σ3,H3,I4,qn⟩
 ·refine Qt hp (thn (T.item X rfl rfl rfl hc i pins s3 σ3 H3 X.xe I3 (stat fr3) st3 go) fun r s4 hz=>xa hz fun u hr h4=>?_);subst hr;refine Qt hp (thn h4 fun _ s5 hz=>xm hz fun x H5 I5 r5 y5 st5 fr5=>?_);have I5':=I5.pinned (stat fr5) (T.obj _ _ st5);refine Qt hp (thn (hg _ s5 σ3 H5 x u _ I5' r5 (step x H5 y5)) fun _ s6 hz=>xi hz fun σ6 H6 I6 q6=>?_);refine Qt hp (thn (hb _ s6 σ6 H6 _ I6 q6) fun f s7 q7=>?_);have again:∀ {σ7:St} {H7:Hp},Inv X (pins++zjo fp s5.heap) σ7 H7 s7->N σ7 H7->∃ m,m<n/\∃ i σ' H',Inv X pins σ' H' s7/\tn i s7.heap/\(∀ b∈fp,H' b=none)/\W i m σ' H':=fun {σ7 H7} I7 n7=>by
   refine xa (hN σ7 H7 n7) fun m' hm w7=>?_;refine⟨m',hm,i+1,σ7,H7,I7.unpinned,T.keep _ _ _ st5 fun b hb o e=>(I7.pin (b,o) (Yo _ (Yo _ (zdl hb e)))).1,fun b hb=>?_,w7⟩
   refine xa (T.obj _ _ st5 b hb) fun o e d=>?_;exact (I7.pin (b,o) (Yo _ (Yo _ (zdl hb e)))).2.1
  cases f with
  | next=>refine xi q7 fun σ7 H7 I7 n7=>?_;clear q7;exact again I7 n7
  | cont=>refine xi q7 fun σ7 H7 I7 n7=>?_;clear q7;exact again I7 n7
  | brk=>refine xi q7 fun σ7 H7 I7 q7=>?_;exact⟨σ7,H7,I7.unpinned,q7⟩
  | ret v=>refine xw q7 fun x7 σ7 H7 I7 r7 q7=>?_;exact⟨x7,σ7,H7,I7.unpinned,r7,q7⟩
end
end L2
namespace L2
open PySem PySem.Spec PyProof.Rows
noncomputable abbrev R2:=V->V->Hp->VK->Prop
def OpR (X:Cx) (f:Value->Value->Sem Value) (r:R2):Prop:=
 ∀ (pins:List (Addr×Obj)) (s:Shared) (σ:St) (H:Hp) (x y:V) (v u:Value) (Q:VK),Inv X pins σ H s->RelV x v->RelV y u->r x y H Q ->
  wpAny (model X.prog X.w) X.A (f v u) (EP X pins σ Q) X.xe s
def UnR (X:Cx) (f:Value->Sem Value) (r:V->Hp->VK->Prop):Prop:=
 ∀ (pins:List (Addr×Obj)) (s:Shared) (σ:St) (H:Hp) (x:V) (v:Value) (Q:VK),Inv X pins σ H s->RelV x v->r x H Q ->
  wpAny (model X.prog X.w) X.A (f v) (EP X pins σ Q) X.xe s
def ziw (X:Cx) (f:Value) (r:List V->Hp->VK->Prop):Prop:=
 ∀ (pins:List (Addr×Obj)) (s:Shared) (σ:St) (H:Hp) (xs:List V) (us:List Value) (Q:VK),Inv X pins σ H s->Vals xs us->r xs H Q ->
  wpAny (model X.prog X.w) X.A (call f us) (EP X pins σ Q) X.xe s
noncomputable def tOp (r:R2) (ta tb:TE):TE:=fun σ H Q=>ta σ H fun x H1=>tb σ H1 fun y H2=>r x y H2 Q
noncomputable def tUn (r:V->Hp->VK->Prop) (ta:TE):TE:=fun σ H Q=>ta σ H fun x H1=>r x H1 Q
noncomputable def rI (C:Int->Int->Prop) (g:Int->Int->V):R2:=fun x y H Q=>∃ i j,x=.int i/\y=.int j/\C i j/\Q (g i j) H
noncomputable def rI0 (g:Int->Int->V):R2:=fun x y H Q=>∃ i j,x=.int i/\y=.int j/\Q (g i j) H
noncomputable def rU (g:Int->V):V->Hp->VK->Prop:=fun x H Q=>∃ i,x=.int i/\Q (g i) H
section
variable {X:Cx} {a b c:Expr} {ta tb tc:TE} {pos:Pos}
theorem binT (ha:PE X a ta) (hb:PE X b tb) {pins:List (Addr×Obj)} {s:Shared} {σ:St} {H:Hp} {R:V->V->Hp->Prop} (I:Inv X pins σ H s)
  (h:ta σ H fun x H1=>tb σ H1 fun y H2=>R x y H2) {Q:Value->Shared->Prop} {f:Value->Value->Sem Value}
  (hf:∀ v u s2 x y H2,Inv X pins σ H2 s2->RelV x v->RelV y u->R x y H2->wpAny (model X.prog X.w) X.A (f v u) Q X.xe s2) :
  wpAny (model X.prog X.w) X.A (eval a X.env) (fun v s₁=>wpAny (model X.prog X.w) X.A (eval b X.env) (fun u s₂=>wpAny (model X.prog X.w) X.A (f v u) Q X.xe s₂) X.xe s₁) X.xe s:=by
 refine thn (ha pins s σ H _ I h) fun v s1 hz=>xc hz fun x H1 I1 r1 q1=>?_
 refine thn (hb pins s1 σ H1 _ I1 q1) fun u s2 hz=>xc hz fun y H2 I2 r2 q2=>?_
 exact hf v u s2 x y H2 I2 r1 r2 q2
theorem yhk {op:Operator} {r:R2} (ho:OpR X (binaryOp op) r) (ha:PE X a ta) (hb:PE X b tb):PE X (.BinOp a op b pos) (tOp r ta tb):=by
 intro pins s σ H Q I h;exact wpAny_BinOp (binT ha hb I h fun v u s2 x y H2 I2 rx ry q=>ho pins s2 σ H2 x y v u Q I2 rx ry q)
theorem pe_un {op:UnaryOp} {r:V->Hp->VK->Prop} (ho:UnR X (unaryOp op) r) (ha:PE X a ta):PE X (.UnaryOp op a pos) (tUn r ta):=by
 intro pins s σ H Q I h;exact UnaryOp_ (thn (ha pins s σ H _ I h) fun v s1 hz=>xc hz fun x H1 I1 r1 q1=>ho pins s1 σ H1 x v Q I1 r1 q1)
theorem opI {f:Value->Value->Sem Value} {C:Int->Int->Prop} {g:Int->Int->Int}
  (rule:∀ (i j:Int) (t u:Tok) (s:Shared) (Q:Value->Shared->Prop) (E:Value->Shared->Prop),C i j->Q (.int (g i j) s.toks) {s with toks:=s.toks+1}->wpAny (model X.prog X.w) X.A (f (.int i t) (.int j u)) Q E s) :
  OpR X f (rI C fun i j=>.int (g i j)):=by
 intro pins s σ H x y v u Q I rx ry h;refine xu h fun i j qz2 qz3 hc q=>?_;clear h;subst qz2;subst qz3
 refine xb rx fun t qz1=>?_;clear rx;subst qz1
 refine xb ry fun t' qz1=>?_;clear ry;subst qz1
 exact rule i j t t' s _ _ hc ⟨.int (g i j),H,I.tok _,⟨_,rfl⟩,q⟩
theorem opI0 {f:Value->Value->Sem Value} {g:Int->Int->Int}
  (rule:∀ (i j:Int) (t u:Tok) (s:Shared) (Q:Value->Shared->Prop) (E:Value->Shared->Prop),Q (.int (g i j) s.toks) {s with toks:=s.toks+1}->wpAny (model X.prog X.w) X.A (f (.int i t) (.int j u)) Q E s) :
  OpR X f (rI0 fun i j=>.int (g i j)):=by
 intro pins s σ H x y v u Q I rx ry h;refine xc h fun i j qz2 qz3 q=>?_;clear h;subst qz2;subst qz3
 refine xb rx fun t qz1=>?_;clear rx;subst qz1
 refine xb ry fun t' qz1=>?_;clear ry;subst qz1
 exact rule i j t t' s _ _ ⟨.int (g i j),H,I.tok _,⟨_,rfl⟩,q⟩
theorem opB0 {f:Value->Value->Sem Value} {g:Int->Int->Bool}
  (rule:∀ (i j:Int) (t u:Tok) (s:Shared) (Q:Value->Shared->Prop) (E:Value->Shared->Prop),Q (.bool (g i j)) s->wpAny (model X.prog X.w) X.A (f (.int i t) (.int j u)) Q E s) :
  OpR X f (rI0 fun i j=>.bl (g i j)):=by
 intro pins s σ H x y v u Q I rx ry h;refine xc h fun i j qz2 qz3 q=>?_;clear h;subst qz2;subst qz3
 refine xb rx fun t qz1=>?_;clear rx;subst qz1
 refine xb ry fun t' qz1=>?_;clear ry;subst qz1
 exact rule i j t t' s _ _ ⟨.bl (g i j),H,I,rfl,q⟩
def CDiv (i j:Int):Prop:=0<j/\j<1073741824
def CPow (i j:Int):Prop:=0<=j/\j<=1000000/\i.natAbs<2^64
def CMul (i j:Int):Prop:=(-(2^64)<i/\i<2^64)\/(-(2^64)<j/\j<2^64)
theorem CMul.ok {i j:Int} (h:CMul i j):IntMulOk i j:=by
 rcases h with⟨h1,h2⟩ | ⟨h1,h2⟩
 ·exact .of_left (intBits_le_64 h1 h2)
 ·exact .of_right (intBits_le_64 h1 h2)
theorem op_add:OpR X (binaryOp .Add) (rI0 fun i j=>.int (i+j)):=opI0 fun _ _ _ _ _ _ _ q=>add_int q
theorem op_sub:OpR X (binaryOp .Sub) (rI0 fun i j=>.int (i-j)):=opI0 fun _ _ _ _ _ _ _ q=>sub_int q
theorem op_mul:OpR X (binaryOp .Mult) (rI CMul fun i j=>.int (i*j)):=opI fun _ _ _ _ _ _ _ hc q=>mul_int q hc.ok
theorem op_fdiv:OpR X (binaryOp .FloorDiv) (rI CDiv fun i j=>.int (i/j)):=opI fun i j _ _ _ _ _ hc q=>by
 have h1:(0:Int)<j:=hc.1;have h2:j<1073741824:=hc.2;exact floordiv_int (by omega) (by rw [Kw i (by omega)];exact q) (.inl (PyProof.noPylong_small (by omega)))
theorem op_mod:OpR X (binaryOp .Mod) (rI (fun _ j=>0<j) fun i j=>.int (i%j)):=opI fun i j _ _ _ _ _ hc q=>by
 have h1:(0:Int)<j:=hc;exact mod_int' (by omega) (by rw [Qr i (by omega)];exact q)
theorem yht:OpR X (binaryOp .Mod) (rI (fun _ j=>j≠0) fun i j=>.int (i.fmod j)):=opI fun _ _ _ _ _ _ _ hc q=>mod_int' hc q
theorem op_pow:OpR X (binaryOp .Pow) (rI CPow fun i j=>.int (i^j.toNat)):=opI fun _ _ _ _ _ _ _ hc q=>pow_int_small hc.1 hc.2.1 hc.2.2 q
theorem unI {f:Value->Sem Value} {g:Int->Int}
  (rule:∀ (i:Int) (t:Tok) (s:Shared) (Q:Value->Shared->Prop) (E:Value->Shared->Prop),Q (.int (g i) s.toks) {s with toks:=s.toks+1}->wpAny (model X.prog X.w) X.A (f (.int i t)) Q E s) :
  UnR X f (rU fun i=>.int (g i)):=by
 intro pins s σ H x v Q I rx h;refine xa h fun i qz1 q=>?_;clear h;subst qz1
 refine xb rx fun t qz1=>?_;clear rx;subst qz1
 exact rule i t s _ _ ⟨.int (g i),H,I.tok _,⟨_,rfl⟩,q⟩
theorem un_neg:UnR X (unaryOp .USub) (rU fun i=>.int (-i)):=unI fun _ _ _ _ _ q=>neg_int q
end
noncomputable def scal:V->V->Bool
 | .non,.non=>true | .non,.int _=>true | .int _,.non=>true | .non,.bl _=>true | .bl _,.non=>true | .non,.str _=>true | .str _,.non=>true
 | .int _,.int _=>true | .bl _,.bl _=>true | .str _,.str _=>true | .byt _,.byt _=>true
 | .int _,.str _=>true | .str _,.int _=>true | .bl _,.str _=>true | .str _,.bl _=>true
 | _,_=>false
noncomputable def rEq:R2:=fun x y H Q=>scal x y=true/\Q (.bl (decide (x=y))) H
noncomputable def rNe:R2:=fun x y H Q=>scal x y=true/\Q (.bl (!decide (x=y))) H
theorem zle {i j:Int}:decide (V.int i=V.int j)=(i == j):=by
 rw [Jl];simp
theorem zsb {i j:Bool}:decide (V.bl i=V.bl j)=(i == j):=by
 rw [Jl];simp
theorem zxz {i j:Str}:decide (V.str i=V.str j)=(i == j):=by
 rw [Jl];simp
theorem zya {i j:Array UInt8}:decide (V.byt i=V.byt j)=(i.toList == j.toList):=by
 rw [Jl];cases i;cases j;simp
section
variable {X:Cx} {a b c:Expr} {ta tb tc:TE} {pos:Pos}
theorem B7 {pins:List (Addr×Obj)} {σ:St} {H:Hp} {s:Shared} {Q:VK} {k k':Bool} (I:Inv X pins σ H s) (q:Q (.bl k) H) (e:k=k'):EP X pins σ Q (.bool k') s:=by
 subst e;exact⟨.bl k,H,I,rfl,q⟩
theorem op_eq:OpR X (compareOp .Eq) rEq:=by
 intro pins s σ H x y v u Q I rx ry h;refine xg h fun hs q=>?_;clear h
 cases x with
 | non=>
  cases rx;cases y with
  | non=>cases ry;exact PySem.EqNone.eq_none_none (B7 I q (by simp))
  | bl j=>cases ry;exact PySem.EqNone.eq_none_bool (B7 I q (by simp))
  | int j=>refine xb ry fun t' qz1=>?_;clear ry;subst qz1;exact PySem.EqNone.eq_none_int (B7 I q (by simp))
  | str j=>refine xb ry fun t' qz1=>?_;clear ry;subst qz1;exact PySem.EqNone.eq_none_str (B7 I q (by simp))
  | _=>exact absurd (show false=true from hs) Zw
 | bl i=>
  cases rx;cases y with
  | non=>cases ry;exact PySem.EqNone.eq_bool_none (B7 I q (by simp))
  | bl j=>cases ry;exact eq_bool (B7 I q zsb)
  | str j=>refine xb ry fun t' qz1=>?_;clear ry;subst qz1;exact PySem.EqMixed.eq_bool_str (B7 I q (by simp))
  | _=>exact absurd (show false=true from hs) Zw
 | int i=>
  refine xb rx fun t qz1=>?_;clear rx;subst qz1
  cases y with
  | non=>cases ry;exact PySem.EqNone.eq_int_none (B7 I q (by simp))
  | int j=>refine xb ry fun t' qz1=>?_;clear ry;subst qz1;exact eq_int (B7 I q zle)
  | str j=>refine xb ry fun t' qz1=>?_;clear ry;subst qz1;exact PySem.EqMixed.eq_int_str (B7 I q (by simp))
  | _=>exact absurd (show false=true from hs) Zw
 | str i=>
  refine xb rx fun t qz1=>?_;clear rx;subst qz1
  cases y with
  | non=>cases ry;exact PySem.EqNone.eq_str_none (B7 I q (by simp))
  | bl j=>cases ry;exact PySem.EqMixed.eq_str_bool (B7 I q (by simp))
  | int j=>refine xb ry fun t' qz1=>?_;clear ry;subst qz1;exact PySem.EqMixed.eq_str_int (B7 I q (by simp))
  | str j=>refine xb ry fun t' qz1=>?_;clear ry;subst qz1;exact eq_str (B7 I q zxz)
  | _=>exact absurd (show false=true from hs) Zw
 | byt i=>
  refine xb rx fun t qz1=>?_;clear rx;subst qz1
  cases y with
  | byt j=>refine xb ry fun t' qz1=>?_;clear ry;subst qz1;exact PySem.W.eq_bytes (B7 I q zya)
  | _=>exact absurd (show false=true from hs) Zw
 | _=>cases y <;> exact absurd (show false=true from hs) Zw
theorem op_ne:OpR X (compareOp .NotEq) rNe:=by
 intro pins s σ H x y v u Q I rx ry h;refine xg h fun hs q=>?_;clear h
 cases x with
 | non=>
  cases rx;cases y with
  | non=>cases ry;exact PySem.EqNone.ne_none_none (B7 I q (by simp))
  | bl j=>cases ry;exact PySem.EqNone.ne_none_bool (B7 I q (by simp))
  | int j=>refine xb ry fun t' qz1=>?_;clear ry;subst qz1;exact PySem.EqNone.ne_none_int (B7 I q (by simp))
  | str j=>refine xb ry fun t' qz1=>?_;clear ry;subst qz1;exact PySem.EqNone.ne_none_str (B7 I q (by simp))
  | _=>exact absurd (show false=true from hs) Zw
 | bl i=>
  cases rx;cases y with
  | non=>cases ry;exact PySem.EqNone.ne_bool_none (B7 I q (by simp))
  | bl j=>cases ry;exact ne_bool (B7 I q (congrArg not zsb))
  | str j=>refine xb ry fun t' qz1=>?_;clear ry;subst qz1;exact PySem.EqMixed.ne_bool_str (B7 I q (by simp))
  | _=>exact absurd (show false=true from hs) Zw
 | int i=>
  refine xb rx fun t qz1=>?_;clear rx;subst qz1
  cases y with
  | non=>cases ry;exact PySem.EqNone.ne_int_none (B7 I q (by simp))
  | int j=>refine xb ry fun t' qz1=>?_;clear ry;subst qz1;exact ne_int (B7 I q (congrArg not zle))
  | str j=>refine xb ry fun t' qz1=>?_;clear ry;subst qz1;exact PySem.EqMixed.ne_int_str (B7 I q (by simp))
  | _=>exact absurd (show false=true from hs) Zw
 | str i=>
  refine xb rx fun t qz1=>?_;clear rx;subst qz1
  cases y with
  | non=>cases ry;exact PySem.EqNone.ne_str_none (B7 I q (by simp))
  | bl j=>cases ry;exact PySem.EqMixed.ne_str_bool (B7 I q (by simp))
  | int j=>refine xb ry fun t' qz1=>?_;clear ry;subst qz1;exact PySem.EqMixed.ne_str_int (B7 I q (by simp))
  | str j=>refine xb ry fun t' qz1=>?_;clear ry;subst qz1;exact ne_str (B7 I q (congrArg not zxz))
  | _=>exact absurd (show false=true from hs) Zw
 | byt i=>
  refine xb rx fun t qz1=>?_;clear rx;subst qz1
  cases y with
  | byt j=>refine xb ry fun t' qz1=>?_;clear ry;subst qz1;exact PySem.W.ne_bytes (B7 I q (congrArg not zya))
  | _=>exact absurd (show false=true from hs) Zw
 | _=>cases y <;> exact absurd (show false=true from hs) Zw
theorem op_lt:OpR X (compareOp .Lt) (rI0 fun i j=>.bl (decide (i<j))):=opB0 fun _ _ _ _ _ _ _ q=>lt_int q
theorem op_le:OpR X (compareOp .LtE) (rI0 fun i j=>.bl (decide (i<=j))):=opB0 fun _ _ _ _ _ _ _ q=>le_int q
theorem op_gt:OpR X (compareOp .Gt) (rI0 fun i j=>.bl (decide (j<i))):=opB0 fun _ _ _ _ _ _ _ q=>gt_int q
theorem op_ge:OpR X (compareOp .GtE) (rI0 fun i j=>.bl (decide (j<=i))):=opB0 fun _ _ _ _ _ _ _ q=>ge_int q
theorem op_isN:OpR X (compareOp .Is) (fun x y H Q=>y=.non/\Q (.bl (decide (x=.non))) H):=by
 intro pins s σ H x y v u Q I rx ry h;refine xg h fun qz0 q=>?_;clear h;subst qz0
 cases ry;refine is_none_gen (B7 I q ?_);cases x <;> first
  | (cases rx;rfl)
  | (refine xb rx fun t qz1=>?_;clear rx;subst qz1;rfl)
theorem yhs:OpR X (compareOp .IsNot) (fun x y H Q=>y=.non/\Q (.bl (!decide (x=.non))) H):=by
 intro pins s σ H x y v u Q I rx ry h;refine xg h fun qz0 q=>?_;clear h;subst qz0
 cases ry;refine isnot_none_gen (B7 I q ?_);cases x <;> first
  | (cases rx;rfl)
  | (refine xb rx fun t qz1=>?_;clear rx;subst qz1;rfl)
theorem yhl {op:CmpOp} {r:R2} (ho:OpR X (compareOp op) r) (ha:PE X a ta) (hb:PE X b tb) (hm:behindInMarks op b=false):PE X (.Compare a [op] [b] pos) (tOp r ta tb):=by
 intro pins s σ H Q I h;exact wpAny_Compare1 (binT ha hb I h fun v u s2 x y H2 I2 rx ry q=>ho pins s2 σ H2 x y v u Q I2 rx ry q) hm
noncomputable def tTest (t:TE):TT:=fun σ H Q=>t σ H fun x H'=>∃ k,x=.bl k/\Q k H'
theorem yhg {op:CmpOp} {r:R2} (ho:OpR X (compareOp op) r) (ha:PE X a ta) (hb:PE X b tb) (hm:behindInMarks op b=false):PT X (.Compare a [op] [b] pos) (tTest (tOp r ta tb)):=by
 intro pins s σ H Q I h;refine wpAny_isTrue_Compare1 (thn (ha pins s σ H _ I h) fun v s1 hz=>xc hz fun x H1 I1 r1 q1=>thn (hb pins s1 σ H1 _ I1 q1) fun u s2 hz=>xc hz fun y H2 I2 r2 q2=>
  thn (ho pins s2 σ H2 x y v u _ I2 r1 r2 q2) fun c s3 hz=>vo hz fun z H3 I3 r3 k e q3=>?_) hm
 subst e;cases r3;exact Qv ⟨H3,I3,q3⟩
theorem zrh:(sizeLine:Nat)<2^63:=by rw [Qj];decide
theorem zly {x:V} {us:List Value} (r:Vals [x] us):∃ u,us=[u]/\RelV x u:=by
 cases r with
 | cons r1 r2=>cases r2;exact⟨_,rfl,r1⟩
theorem yfu {x y:V} {us:List Value} (r:Vals [x,y] us):∃ u w',us=[u,w']/\RelV x u/\RelV y w':=by
 cases r with
 | cons r1 r2=>
  cases r2 with
  | cons r3 r4=>cases r4;exact⟨_,_,rfl,r1,r3⟩
theorem ycv:ziw X (.builtin "abs") (fun xs H Q=>∃ i,xs=[.int i]/\Q (.int (if i<0 then -i else i)) H):=by
 intro pins s σ H xs us Q I r h;refine xa h fun i qz1 q=>?_;clear h;subst qz1
 refine vf (zly r) fun u qz1 t qz3=>?_;subst qz1;subst qz3
 exact call_abs_int fun u tk=>⟨.int (if i<0 then -i else i),H,I.tok _,⟨_,rfl⟩,q⟩
theorem zyk (hc:X.calm=true):ziw X (.builtin "max") (fun xs H Q=>∃ i j,xs=[.int i,.int j]/\Q (.int (if j > i then j else i)) H):=by
 intro pins s σ H xs us Q I r h;refine xi h fun i j qz2 q=>?_;clear h;subst qz2
 obtain⟨u,w',rfl,⟨t,rfl⟩,⟨t',rfl⟩⟩:=yfu r
 refine max_two_ints (I.ok.hd hc) fun h' tk k=>⟨_,H,I.kept k,?_,q⟩
 by_cases hj:j > i
 ·rw [if_pos hj,if_pos hj];exact⟨_,rfl⟩
 ·rw [if_neg hj,if_neg hj];exact⟨_,rfl⟩
theorem zyj (hc:X.calm=true):ziw X (.builtin "min") (fun xs H Q=>∃ i j,xs=[.int i,.int j]/\Q (.int (if j<i then j else i)) H):=by
 intro pins s σ H xs us Q I r h;refine xi h fun i j qz2 q=>?_;clear h;subst qz2
 obtain⟨u,w',rfl,⟨t,rfl⟩,⟨t',rfl⟩⟩:=yfu r
 refine min_two_ints (I.ok.hd hc) fun h' tk k=>⟨_,H,I.kept k,?_,q⟩
 by_cases hj:j<i
 ·rw [if_pos hj,if_pos hj];exact⟨_,rfl⟩
 ·rw [if_neg hj,if_neg hj];exact⟨_,rfl⟩
end
end L2
namespace L2
open PySem PySem.Spec PyProof.Rows
structure ObjM (h:Heap) (x dx C:Addr) (mA:Str->Option Value):Prop where
 obj:h.get? x=some (PySem.W.instObj C dx)
 ns:h.Ns1 dx mA
 ne:dx≠x
section
variable {prog:Program} {w:World} {A:Around} {E:Value->Shared->Prop} {s:Shared} {K:PySem.W.Frag} {x dx C f:Addr} {mA:Str->Option Value} {name:Str} {v:Value}
end
section
variable {P:Program} {w:World} {H H':Hp} {h h':Heap} {a C dx:Addr} {fs fs':List (Str×V)}
theorem ins_get (hok:HOk P w H h) (e:H a=some (.ins C dx fs)):∃ mA,ObjM h a dx C mA/\(∀ f,RelO (fs.lookup f) (mA f))/\PySem.Within mA (fs.map (·.1))/\fs.length<=1000/\H dx=some (.own a):=by
 obtain⟨d,z,ne,ob,mA,n,r,q⟩:=(show ObjOk P w H h a (.ins C dx fs) from hok a _ e)
 exact⟨mA,⟨ob,n,ne⟩,r,q,z,d⟩
end
section
variable {X:Cx} {pins:List (Addr×Obj)} {σ:St} {H:Hp} {s:Shared} {a C dx:Addr} {fs:List (Str×V)} {f:Str} {v:V} {A:Around} {E:Value->Shared->Prop}
end
section
variable {X:Cx} {o e value:Expr} {f:Str} {pos pos' tpos:Pos} {ta tv:TE}
end
section
variable {X:Cx} {pins:List (Addr×Obj)} {σ:St} {H:Hp} {s:Shared} {A:Around} {E:Value->Shared->Prop} {Q:Value->Shared->Prop} {c:Value} {b:Bool}
end
end L2
namespace L2
open PySem PySem.Spec PyProof.Rows
structure Room (k:Nat) (A:Around):Prop where
 hd:A.handled=none
 dp:A.depth+3*k+5<recursionLimit
 un:A.units+16*k+200<cLine
theorem Room.mono {j k:Nat} {A:Around} (r:Room k A) (h:j<=k):Room j A:=⟨r.hd,by have:=r.dp;omega,by have:=r.un;omega⟩
theorem Room.deeper {k:Nat} {A:Around} (r:Room (k+1) A) (env:Env):Room k (A.deeper env):=
 ⟨r.hd,by have:=r.dp;show A.depth+1+3*k+5<_;omega,by have:=r.un;show A.units+3+16*k+200<_;omega⟩
theorem Room.depth {k:Nat} {A:Around} (r:Room k A):A.depth<recursionLimit:=by have:=r.dp;omega
theorem Room.units {k:Nat} {A:Around} (r:Room k A):A.units+64<cLine:=by have:=r.un;omega
noncomputable def tNil:TA:=fun _ H Q=>Q [] H
noncomputable def tCons (ta:TE) (tr:TA):TA:=fun σ H Q=>ta σ H fun x H1=>tr σ H1 fun xs H2=>Q (x::xs) H2
section
variable {X:Cx} {e:Expr} {es:List Expr} {te:TE} {t:TA} {pos:Pos}
theorem zvw:PA X [] tNil:=fun _ _ _ _ H Q I h=>Ur ⟨[],H,I,.nil,h⟩
theorem zkn (ha:PE X e te) (hr:PA X es t) (hs:starEach (e::es) X.env=(false,eval e X.env)::starEach es X.env:=by rfl):PA X (e::es) (tCons te t):=by
 intro pos pins s σ H Q I h;rw [hs];show wpAny _ _ (spliced ((false,eval e X.env)::backTo pos (starEach es X.env))) _ _ s;refine Uh (thn (ha pins s σ H _ I h) fun u s1 hz=>xc hz fun x H1 I1 r1 q1=>?_);exact thn (hr pos pins s1 σ H1 _ I1 q1) fun us s2 hz=>xc hz fun xs H2 I2 r2 q2=>⟨x::xs,H2,I2,.cons r1 r2,q2⟩
noncomputable def tTup (t:TA):TE:=fun σ H Q=>t σ H fun xs H1=>xs.length<=sizeLine/\∀ p,H1 p=none->Q (.ref p) (upd H1 p (.tup xs))
noncomputable def tLst (t:TA):TE:=fun σ H Q=>t σ H fun xs H1=>xs.length<=sizeLine/\∀ p,H1 p=none->Q (.ref p) (upd H1 p (.lst xs))
theorem pe_tup {x1} (h:PA X es t):PE X (.Tuple es x1 pos) (tTup t):=by
 intro pins s σ H Q I hq;refine wpAny_Tuple_spliced (thn (h pos pins s σ H _ I hq) fun us s1 hz=>xu hz fun xs H1 I1 r z q=>⟨by rw [<- r.length];exact z,?_⟩);have hf:H1 s1.heap.objs.size=none:=I1.hok.fresh (Zh _);refine⟨.ref s1.heap.objs.size,upd H1 s1.heap.objs.size (.tup xs),I1.laid (t':=s1.toks) (fun b u e=>Zf _ e) (Zh _) ?_,rfl,q _ hf⟩
 exact⟨z,us,r,⟨_,Z3 _ rfl,rfl,_,rfl⟩⟩
theorem pe_lst (h:PA X es t):PE X (.List es pos) (tLst t):=by
 intro pins s σ H Q I hq;refine wpAny_List_spliced (thn (h pos pins s σ H _ I hq) fun us s1 hz=>xu hz fun xs H1 I1 r z q=>⟨by rw [<- r.length];exact z,?_⟩);have hf:H1 s1.heap.objs.size=none:=I1.hok.fresh (Zh _);refine⟨.ref s1.heap.objs.size,upd H1 s1.heap.objs.size (.lst xs),I1.laid (t':=s1.toks) (fun b u e=>Zf _ e) (Zh _) ?_,rfl,q _ hf⟩
 exact⟨z,us,0,r,Z3 _ rfl⟩
end
noncomputable abbrev Sp:=List V->Hp->VK->XK->Prop
noncomputable abbrev CXT:=List Env->Hp->Shared->XK->Value->Shared->Prop
structure Env0 (P:Program) (w:World) (K:PySem.W.Frag) (mg:Str->Option Value) (base:Heap) (A:Around) (outer:List Env) (s:Shared) (H:Hp):Prop where
 frames:A.frames=some outer
 mod:Mod K mg base
 bs:∀ b o,base.get? b=some o->s.heap.get? b=some o/\H b=none
 bsz:base.objs.size<=s.heap.objs.size
 funs:s.heap.FunFrames base outer
 frf:∀ b∈frs outer,H b=none
 hok:HOk P w H s.heap
 bare:AllBare s.gens
def CE (outer:List Env) (P:Program) (w:World) (H:Hp) (s:Shared) (Q:VK) (u:Value) (s':Shared):Prop:=
 ∃ v H',s'.os=s.os/\AllBare s'.gens/\Un (frs outer) [] H H' s.heap s'.heap/\HOk P w H' s'.heap/\RelV v u/\Q v H'
def CR (CX:CXT) (outer:List Env) (P:Program) (w:World) (H:Hp) (s:Shared) (Q:VK) (E:XK) (r:Result) (s':Shared):Prop:=
 match r with
 | .ok (.ret u)=>CE outer P w H s Q u s'
 | .ok _=>False
 | .error e=>CX outer H s E e s'
structure FnOk (P:Program) (w:World) (K:PySem.W.Frag) (mg:Str->Option Value) (base:Heap) (CX:CXT) (k:Nat) (f:Addr) (fd:FuncData) (ps:List Str) (sp:Sp):Prop where
 len:∀ vs H Q E,sp vs H Q E->vs.length=ps.length
 run:∀ (A:Around) (outer:List Env) (s:Shared) (H:Hp) (args:Args) (us:List Value) (vs:List V) (Q:VK) (E:XK),Room k A->Env0 P w K mg base A outer s H->BindsTo s fd args (ps.zip us)->Vals vs us->sp vs H Q E ->
  codeAny (model P w) A (.call (.ref f) args) (CR CX outer P w H s Q E) s
theorem FnOk.mono {P:Program} {w:World} {K:PySem.W.Frag} {mg:Str->Option Value} {base:Heap} {CX:CXT} {j k:Nat} {f:Addr} {fd:FuncData} {ps:List Str} {sp:Sp} (F:FnOk P w K mg base CX j f fd ps sp) (h:j<=k) :
  FnOk P w K mg base CX k f fd ps sp:=⟨F.len,fun A outer s H args us vs Q E hr=>F.run A outer s H args us vs Q E (hr.mono h)⟩
theorem FnOk.imp {P:Program} {w:World} {K:PySem.W.Frag} {mg:Str->Option Value} {base:Heap} {CX:CXT} {k:Nat} {f:Addr} {fd:FuncData} {ps:List Str} {sp sp':Sp} (F:FnOk P w K mg base CX k f fd ps sp)
  (h:∀ vs H Q E,sp' vs H Q E->sp vs H Q E):FnOk P w K mg base CX k f fd ps sp':=
 ⟨fun vs H Q E q=>F.len vs H Q E (h _ _ _ _ q),fun A outer s H args us vs Q E hr he hb hv hs=>F.run A outer s H args us vs Q E hr he hb hv (h _ _ _ _ hs)⟩
section
variable {X:Cx} {pins:List (Addr×Obj)} {σ:St} {H:Hp} {s s':Shared}
theorem Inv.env0 (I:Inv X pins σ H s):Env0 X.prog X.w X.K X.mg X.base X.A X.stack s H:=
 ⟨I.ok.frames,I.ok.mod,I.bs,Y3 I.ok.bsz I.sz,I.stack,I.stkFree,I.hok,I.bare⟩
theorem Inv.after {Q:VK} {u:Value} (I:Inv X pins σ H s) (h:CE X.stack X.prog X.w H s Q u s'):EP X pins σ Q u s':=by
 refine vc h fun v H' os bare un hok r q=>?_;clear h
 obtain⟨hh,g,d,t,os'⟩:=s'
 obtain rfl:os'=s.os:=os;exact⟨v,H',I.call (h':=hh) (g':=g) (d':=d) (t':=t) (ch:=[]) un hok bare (fun b z=>absurd z (by simp)),r,q⟩
end
noncomputable def tCall (sp:Sp) (dvs:List V) (E:XK) (t:TA):TE:=fun σ H Q=>t σ H fun vs H1=>sp (vs++dvs) H1 Q E
def Binds (K:PySem.W.Frag) (fd:FuncData) (ps:List Str) (ds:List Value):Prop:=
 ∀ (s:Shared) (us:List Value),K.In s.heap->(us++ds).length=ps.length->BindsTo s fd ⟨us,[]⟩ (ps.zip (us++ds))
theorem Binds.all {K:PySem.W.Frag} {fd:FuncData} {ps:List Str} (h:∀ us:List Value,us.length=ps.length->bindArgs fd ⟨us,[]⟩=pure (ps.zip us)):Binds K fd ps []:=fun s us _ hl=>by
 rw [Wk] at hl |-;exact .of_eq (h us hl)
def zzk (CX:CXT) (X:Cx) (E:XK):Prop:=∀ (pins:List (Addr×Obj)) (σ:St) (H:Hp) (s:Shared) (e:Value) (s':Shared),Inv X pins σ H s->CX X.stack H s E e s'->X.xe e s'
section
variable {X:Cx} {CX:CXT} {k:Nat} {f C:Addr} {fd:FuncData} {ps:List Str} {sp:Sp} {dvs:List V} {ds:List Value} {E:XK} {x m:Str} {p pos apos:Pos} {e o:Expr} {es:List Expr} {ta:TE} {t:TA}
theorem run_fn {pins:List (Addr×Obj)} {σ:St} {H:Hp} {s:Shared} {Q:VK} {us:List Value} {vs:List V} (F:FnOk X.prog X.w X.K X.mg X.base CX k f fd ps sp) (hr:Room k X.A) (hb:Binds X.K fd ps ds) (hd:Vals dvs ds) (hx:zzk CX X E)
  (I:Inv X pins σ H s) (r:Vals vs us) (h:sp (vs++dvs) H Q E):wpAny (model X.prog X.w) X.A (call (.ref f) us) (EP X pins σ Q) X.xe s:=by
 have r2:Vals (vs++dvs) (us++ds):=r.append hd;have hl:(us++ds).length=ps.length:=by rw [<- r2.length];exact F.len _ _ _ _ h
 refine wpAny_call (Ug (F.run X.A X.stack s H ⟨us,[]⟩ (us++ds) (vs++dvs) Q E hr I.env0 (hb s us I.kIn hl) r2 h) fun r s' hq=>?_);cases r with
 | error e=>exact hx pins σ H s e s' I hq
 | ok fl=>
  cases fl with
  | ret u=>exact I.after hq
  | next=>exact False.elim hq
  | brk=>exact False.elim hq
  | cont=>exact False.elim hq
theorem yhm (F:FnOk X.prog X.w X.K X.mg X.base CX k f fd ps sp) (hr:Room k X.A) (hg:Gl X x) (hm:X.mg x=some (.ref f)) (hk:PySem.W.keepIn X.K (.ref f)=true) (hb:Binds X.K fd ps ds) (hd:Vals dvs ds) (hx:zzk CX X E)
  (ha:PA X (e::es) t) (hdb:(x == ("__debug__" : Str))=false:=by decide) (he:starEach (e::es) X.env=(false,eval e X.env)::starEach es X.env:=by rfl) (hpl:(backTo pos (starEach es X.env)).any (·.1)=false:=by rfl) :
  PE X (.Call (.Name x p) (e::es) [] pos) (tCall sp dvs E t):=by
 intro pins s σ H Q I h;refine Qa (yin I hg hm ?_ hdb);refine PySem.W.callWith_K (h₀:=X.base) I.ok.mod.kin hk (thn (ha pos pins s σ H _ I h) fun us s1 hz=>xc hz fun vs H1 I1 r q=>⟨I1.kIn,?_⟩) he hpl;exact run_fn F hr hb hd hx I1 r q
end
section
variable {X:Cx} {CX:CXT} {k:Nat} {f C:Addr} {fd:FuncData} {ps ks:List Str} {sp:Sp} {E:XK} {x m:Str} {p pos apos kpos:Pos} {e o:Expr} {es:List Expr} {kws:List Keyword} {te ta:TE} {t tk:TA} {nm:Option Str}
variable {g:List Value->List Value->List Value} {gV:List V->List V->List V}
end
structure FnScope (N P:List Str) (sc:Scope):Prop where
 kind:sc.kind=.function
 co:sc.isCoroutine=false
 gen:sc.isGenerator=false
 nd:N.Nodup
 pre:N.take P.length=P
 par:∀ x∈P,sc.names.lookup x=some .local\/sc.names.lookup x=some .cell
 nofree:∀ y∈sc.names,y.2 ≠ .free
theorem zod {kindOf:Str->Option NameKind} {x:Str}:∀ {binds:List (Str×Value)} {m:Str->Option Value},(∀ v,(x,v)∉binds)->bindL kindOf binds m x=m x
 | [],_,_=>rfl
 | (n,v)::r,m,h=>by
  unfold bindL;rw [zod fun w hw=>h w (Yl _ hw)];split
  ·have:x≠n:=by rintro rfl;exact h v Y9
   simp [this]
  ·rfl
theorem zof {kindOf:Str->Option NameKind} {x:Str}:∀ {binds:List (Str×Value)} {m:Str->Option Value},(∀ v,(x,v)∉binds)->bindC kindOf binds m x=m x
 | [],_,_=>rfl
 | (n,v)::r,m,h=>by
  unfold bindC;rw [zof fun w hw=>h w (Yl _ hw)];split
  ·rfl
  ·have:x≠n:=by rintro rfl;exact h v Y9
   simp [this]
theorem zoe {kindOf:Str->Option NameKind} {x:Str} {v:Value}:∀ {P:List Str} {vs:List Value} {i:Nat} {m:Str->Option Value},P.Nodup->P[i]? = some x->vs[i]? = some v->kindOf x=some .local ->
  bindL kindOf (P.zip vs) m x=some v
 | [],_,_,_,_,h,_,_=>by simp at h
 | _::_,[],_,_,_,_,h,_=>by simp at h
 | p::P,w::vs,0,m,nd,h1,h2,hk=>by
  simp at h1 h2;subst h1;subst h2
  show bindL kindOf ((p,w)::P.zip vs) m p=_;unfold bindL;rw [zod fun v hv=>(Wa.mp nd).1 (Vd hv).1,if_pos hk];simp
 | p::P,w::vs,i+1,m,nd,h1,h2,hk=>by
  show bindL kindOf ((p,w)::P.zip vs) m x=_;unfold bindL;exact zoe (i:=i) (Wa.mp nd).2 (by simpa using h1) (by simpa using h2) hk
theorem zog {kindOf:Str->Option NameKind} {x:Str} {v:Value}:∀ {P:List Str} {vs:List Value} {i:Nat} {m:Str->Option Value},P.Nodup->P[i]? = some x->vs[i]? = some v->kindOf x≠some .local ->
  bindC kindOf (P.zip vs) m x=some v
 | [],_,_,_,_,h,_,_=>by simp at h
 | _::_,[],_,_,_,_,h,_=>by simp at h
 | p::P,w::vs,0,m,nd,h1,h2,hk=>by
  simp at h1 h2;subst h1;subst h2
  show bindC kindOf ((p,w)::P.zip vs) m p=_;unfold bindC;rw [zof fun v hv=>(Wa.mp nd).1 (Vd hv).1,if_neg hk];simp
 | p::P,w::vs,i+1,m,nd,h1,h2,hk=>by
  show bindC kindOf ((p,w)::P.zip vs) m x=_;unfold bindC;exact zog (i:=i) (Wa.mp nd).2 (by simpa using h1) (by simpa using h2) hk
noncomputable def start (N:List Str) (vs:List V):St:=vs.map some++List.replicate (N.length-vs.length) none
noncomputable def cxOf (CX:CXT) (P:Program) (w:World) (K:PySem.W.Frag) (mg:Str->Option Value) (base:Heap) (N:List Str) (qual:Str) (scope:Scope) (f:Addr) (cd:Value) (A:Around) (outer:List Env) (s:Shared) (H:Hp) (E:XK):Cx where
 prog:=P
 w:=w
 K:=K
 mg:=mg
 base:=base
 A:=A.deeper (envOfC qual scope s.heap.objs.size f cd)
 N:=N
 s₀:=s
 H₀:=H
 env:=envOfC qual scope s.heap.objs.size f cd
 outer:=outer
 stack:=envOfC qual scope s.heap.objs.size f cd::outer
 ex:=[]
 calm:=true
 fn:=fun _=>true
 pn:=[]
 xe:=fun e s'=>wpAny (model P w) (A.deeper (envOfC qual scope s.heap.objs.size f cd)) (leaving (envOfC qual scope s.heap.objs.size f cd) e) (fun _ s''=>CX outer H s E e s'') (fun e' s''=>CX outer H s E e' s'') s'
theorem zsh {sc:Scope} {n:Nat} {x:Str} (h:sc.names.lookup x=some .cell):∃ c,(cellsFrom n sc.names []).lookup x=some c:=by
 have q:=Vu sc.names n [] (.inl h);exact Vm.mp q
theorem zxh {CX:CXT} {P:Program} {w:World} {K:PySem.W.Frag} {mg:Str->Option Value} {base:Heap} {N ps:List Str} {qual:Str} {scope:Scope} {f:Addr} {cd:Value} {A:Around} {outer:List Env} {s s1:Shared} {H:Hp} {E:XK} {us:List Value} {vs:List V}
  (S:FnScope N ps scope) (hd:A.handled=none) (e0:Env0 P w K mg base A outer s H) (hl:vs.length=ps.length) (r:Vals vs us)
  (x:InCallC s s.heap.objs.size (bindL (envOfC qual scope s.heap.objs.size f cd).kindOf (ps.zip us) fun _=>none) (cellsFrom (s.heap.objs.size+1) scope.names []) (bindC (envOfC qual scope s.heap.objs.size f cd).kindOf (ps.zip us) fun _=>none) s1) :
  Inv (cxOf CX P w K mg base N qual scope f cd A outer s H E) [] (start N vs) H s1:=by
 have hpl:ps.length<=N.length:=by have:=congrArg List.length S.pre;rw [W4] at this;omega
 refine xi x.done fun h1 tk qz2 hk=>?_;subst qz2
 have noA:∀ b:Addr,b∉(cxOf CX P w K mg base N qual scope f cd A outer s H E).ex:=fun b z=>absurd (show b∈([]:List Addr) from z) (by simp)
 refine⟨⟨e0.mod,S.kind,rfl,rfl,Zh _,fun y z c h1 h2=>?_,fun y hy=>?_,fun y c _ h=>?_,fun _=>hd,Around.frames_deeper e0.frames,.inr ⟨rfl,rfl⟩,fun b z=>absurd z (noA b),e0.bs,e0.bsz,fun b _ _=>noA b,fun b z=>absurd z (noA b),e0.funs,e0.frf⟩,
  rfl,e0.bare,Un.kept hk,⟨_,x.toInCall.ns,fun i y v h1 h2 h3=>?_⟩,fun y c h=>⟨_,x.cell y c h⟩,e0.hok.fresh (Zh _),fun y c h=>?_,fun p hp=>absurd (show p∈([]:List (Addr×Obj)) from hp) (by simp),e0.hok.kept hk,?_⟩
 ·exact name_of_addr x.apart (Qy h1) (Qy h2)
 ·have hy:scope.names.lookup y=some .cell\/scope.names.lookup y=some .free:=hy;rcases hy with hy | hy
  ·exact zsh hy
  ·exact absurd rfl (S.nofree _ (Qy hy))
 ·exact Kk (x.above y c (Qy h))
 ·have hi:i<vs.length:=by
   unfold start at h2;by_cases hi:i<vs.length
   ·exact hi
   ·rw [Zu (by simpa using hi)] at h2;rw [Qf] at h2;split at h2 <;> cases h2
  have ha:vs[i]? = some v:=by
   unfold start at h2;rw [Z2 (by simpa using hi),Zk] at h2;cases e:vs[i]? with
   | none=>rw [e] at h2;cases h2
   | some a=>rw [e] at h2;cases h2;rfl
  refine xa (r.get ha) fun u hu rv=>?_;have hp:ps[i]? = some y:=by
   rw [<- S.pre,K8 (by omega)];exact h1
  have ndP:ps.Nodup:=by rw [<- S.pre];exact S.nd.sublist (List.take_sublist _ _)
  refine⟨u,rv,?_⟩
  rcases S.par y (Zn hp) with k | k
  ·exact .inl ⟨k,zoe ndP hp hu k⟩
  ·refine xb (zsh (n:=s.heap.objs.size+1) k) fun c e=>?_;refine .inr ⟨.inl k,c,e,?_⟩;have q:=x.cell y c e;rw [zog ndP hp hu (by show scope.names.lookup y≠_;rw [k];decide)] at q;exact q
 ·exact e0.hok.fresh (Kk (x.above y c (Qy h)))
 ·unfold start;show _=N.length;rw [Zq,Zd,Y5];omega
theorem fn_of {CX:CXT} {P:Program} {w:World} {K:PySem.W.Frag} {mg:Str->Option Value} {base:Heap} {k:Nat} {f:Addr} {name qual:Str} {params:Arguments} {body:List Stmt} {scope:Scope} {dV kV doc pm cdv ct oc:Value} {an od:Option Addr}
  {osl:Array (Option Value)} {N ps:List Str} {sp:Sp} (lk:K.lookup f=some ⟨oc,od,.func (PySem.W.fnOf name qual params body scope dV kV doc pm an cdv ct),osl⟩) (hcd:PySem.W.codeIn K cdv qual=true) (S:FnScope N ps scope)
  (len:∀ vs H Q E,sp vs H Q E->vs.length=ps.length)
  (hbody:∀ (A:Around) (outer:List Env) (s:Shared) (H:Hp) (vs:List V) (Q:VK) (E:XK),Room k (A.deeper (envOfC qual scope s.heap.objs.size f cdv))->sp vs H Q E ->
   ∃ t,PSs (cxOf CX P w K mg base N qual scope f cdv A outer s H E) body t/\t {nx:=fun _ H'=>Q .non H',rt:=Q} (start N vs) H) :
  FnOk P w K mg base CX (k+1) f (PySem.W.fnOf name qual params body scope dV kV doc pm an cdv ct) ps sp:=by
 refine⟨len,fun A outer s H args us vs Q E hr e0 hb r hsp=>?_⟩
 have hl:=len _ _ _ _ hsp;have KX:K.In s.heap:=e0.mod.kin.keeps fun b o e=>(e0.bs b o e).1
 have lim:s.heap.NoLimit:=e0.mod.nolimit.keeps fun b o e=>(e0.bs b o e).1
 have hkind:∀ y∈ps.zip us,scope.names.lookup y.1=some .local\/(scope.names.lookup y.1=some .cell/\((cellsFrom (s.heap.objs.size+1) scope.names []).lookup y.1).isSome=true):=fun⟨n,v⟩ hy=>by
  rcases S.par n (Vd hy).1 with q | q
  ·exact .inl q
  ·exact .inr ⟨q,Vu _ _ _ (.inl q)⟩
 refine codeAny_call_function hr.depth (KX _ _ lk) rfl S.co S.gen rfl (PySem.W.codeRec_of KX hcd) (hb _ _ _ _ ?_);refine wpAny_newFunctionEnv_cells S.kind hkind fun env he s1 x=>?_;subst he;refine⟨lim.keeps x.toInCall.keep,codeAny_func ?_⟩
 refine xa (hbody A outer s H vs Q E (hr.deeper _) hsp) fun t ht hq=>?_;have I:Inv (cxOf CX P w K mg base N qual scope f cdv A outer s H E) [] (start N vs) H s1:=zxh S hr.hd e0 hl r x;refine Ky (ht [] s1 (start N vs) H _ I hq) (fun fl s' hs=>?_) fun e s' hs=>hs
 have fin:∀ {σ':St} {H':Hp} {v:V} {u:Value},Inv (cxOf CX P w K mg base N qual scope f cdv A outer s H E) [] σ' H' s'->RelV v u->Q v H'->CE outer P w H s Q u s':=
  fun {σ' H' v u} J rv q=>⟨v,H',J.os,J.bare,J.base,J.hok,rv,q⟩
 cases fl with
 | ret u=>
  refine xw hs fun v σ' H' J rv q=>?_;clear hs
  exact fin J rv q
 | next=>
  refine xi hs fun σ' H' J q=>?_;clear hs
  exact fin (v:=V.non) (u:=Value.none) J rfl q
 | brk=>
  refine xi hs fun _ _ _ q=>?_;clear hs
  exact False.elim q
 | cont=>
  refine xi hs fun _ _ _ q=>?_;clear hs
  exact False.elim q
end L2
namespace L2
open PySem PySem.Spec PyProof.Rows
section
variable {X:Cx} {x:Str} {p pos:Pos} {e:Expr} {es:List Expr} {t:TA} {id T:String} {r:List V->Hp->VK->Prop}
noncomputable def tCB (r:List V->Hp->VK->Prop) (t:TA):TE:=fun σ H Q=>t σ H fun vs H1=>r vs H1 Q
theorem zqw (hc:ziw X (.builtin id) r) (hg:Gl X x) (hm:X.mg x=none) (hv:bootBuiltins x=some (.builtin id)) (ha:PA X (e::es) t) (hn:x ≠ "__name__" := by decide) (hdb:(x == ("__debug__" : Str))=false:=by decide)
  (he:starEach (e::es) X.env=(false,eval e X.env)::starEach es X.env:=by rfl) (hpl:(backTo pos (starEach es X.env)).any (·.1)=false:=by rfl):PE X (.Call (.Name x p) (e::es) [] pos) (tCB r t):=by
 intro pins s σ H Q I h;refine Qa (zeo I hg hm hv ?_ hn hdb);exact Jr (thn (ha pos pins s σ H _ I h) fun us s1 hz=>xc hz fun vs H1 I1 r1 q1=>hc pins s1 σ H1 vs us Q I1 r1 q1) he hpl
theorem zvv (hc:ziw X (.type T) r) (hg:Gl X x) (hm:X.mg x=none) (hv:bootBuiltins x=some (.type T)) (ha:PA X (e::es) t) (hn:x ≠ "__name__" := by decide) (hdb:(x == ("__debug__" : Str))=false:=by decide)
  (he:starEach (e::es) X.env=(false,eval e X.env)::starEach es X.env:=by rfl) (hpl:(backTo pos (starEach es X.env)).any (·.1)=false:=by rfl):PE X (.Call (.Name x p) (e::es) [] pos) (tCB r t):=by
 intro pins s σ H Q I h;refine Qa (zeo I hg hm hv ?_ hn hdb);exact Wd (thn (ha pos pins s σ H _ I h) fun us s1 hz=>xc hz fun vs H1 I1 r1 q1=>hc pins s1 σ H1 vs us Q I1 r1 q1) he hpl
end
end L2
namespace HT
open PySem PyProof.Rows
section
open PySem.SeqAt
open PySem.AutoSeq1 (wpAny_loadPart')
open PySem.MeetsSeq PySem.MeetsSeq2 PySem.MeetsSeq3
end
section
variable {prog:Program} {w:World} {A:Around} {E:Value->Shared->Prop} {s:Shared}
noncomputable def sIx (n d:Nat):Option Int->Nat
 | none=>d
 | some v=>if v<0 then (v+(n:Int)).toNat else min v.toNat n
theorem sIx_none (n d:Nat):sIx n d none=d:=rfl
theorem sIx_nat (n d k:Nat):sIx n d (some (k:Int))=min k n:=by
 show (if (k:Int)<0 then ((k:Int)+(n:Int)).toNat else min (k:Int).toNat n)=min k n;rw [if_neg (by omega),Qq]
end
end HT
namespace L2
open PySem PySem.Spec PyProof.Rows
noncomputable abbrev TO:=St->Hp->(Option Int->Hp->Prop)->Prop
def PO (X:Cx) (e:Option Expr) (t:TO):Prop:=
 ∀ (pins:List (Addr×Obj)) (s:Shared) (σ:St) (H:Hp) (Q:Option Int->Hp->Prop),Inv X pins σ H s->t σ H Q ->
  wpAny (model X.prog X.w) X.A (evalPart e X.env) (fun u s'=>∃ o H',Inv X pins σ H' s'/\IsPart u o/\Q o H') X.xe s
noncomputable def ygg:TO:=fun _ H Q=>Q none H
noncomputable def tPart (t:TE):TO:=fun σ H Q=>t σ H fun x H1=>∃ i,x=.int i/\Q (some i) H1
section
variable {X:Cx} {e:Expr} {te:TE} {lo hi:Option Expr} {tl th:TO} {pos p2:Pos}
theorem yhj:PO X none ygg:=by
 intro pins s σ H Q I h;rw [evalPart_none];exact Zg ⟨none,H,I,.none,h⟩
theorem yhi (h:PE X e te):PO X (some e) (tPart te):=by
 intro pins s σ H Q I hw;rw [evalPart_some];refine thn (h pins s σ H _ I hw) fun u s1 hz=>xc hz fun x H1 I1 r1 q1=>?_
 refine xa q1 fun i qz1 q=>?_;clear q1;subst qz1
 refine xb r1 fun t qz1=>?_;clear r1;subst qz1
 exact⟨some i,H1,I1,.int i t,q⟩
def SlR (X:Cx) (r:V->Option Int->Option Int->Hp->VK->Prop):Prop:=
 ∀ (pins:List (Addr×Obj)) (s:Shared) (σ:St) (H:Hp) (x:V) (v vl vu:Value) (lo hi:Option Int) (sl:Addr) (Q:VK),Inv X pins σ H s->RelV x v->s.heap.IsSliceOf sl vl vu .none->IsPart vl lo->IsPart vu hi->r x lo hi H Q ->
  ∃ T id,typeLookup (.type T) "__getitem__" = pure (some (.builtin id))/\s.TypeIs v T/\wpAny (model X.prog X.w) X.A (getItem v (.ref sl)) (EP X pins σ Q) X.xe s
noncomputable def tSl (r:V->Option Int->Option Int->Hp->VK->Prop) (te:TE) (tl th:TO):TE:=fun σ H Q=>te σ H fun x H1=>tl σ H1 fun l H2=>th σ H2 fun u H3=>r x l u H3 Q
theorem yax {r:V->Option Int->Option Int->Hp->VK->Prop} (hr:SlR X r) (he:PE X e te) (hl:PO X lo tl) (hu:PO X hi th):PE X (.Subscript e (.Slice lo hi none p2) pos) (tSl r te tl th):=by
 intro pins s σ H Q I h;refine Subscript_ (thn (he pins s σ H _ I h) fun v s1 hz=>xc hz fun x H1 I1 r1 q1=>?_);refine wpAny_Slice (thn (hl pins s1 σ H1 _ I1 q1) fun vl s2 hz=>xc hz fun l H2 I2 pl q2=>thn (hu pins s2 σ H2 _ I2 q2) fun vu s3 hz=>xc hz fun u H3 I3 pu q3=>?_);rw [evalPart_none];refine Zg ?_;have I4:Inv X pins σ H3 {s3 with heap:=s3.heap.push {cls:=.type "slice", data:=.fields #[vl,vu,.none]} }:=I3.kept (t':=s3.toks) fun b ob q=>Zf _ q
 refine xc (hr pins {s3 with heap:=s3.heap.push {cls:=.type "slice", data:=.fields #[vl,vu,.none]} } σ H3 x v vl vu l u s3.heap.objs.size Q I4 r1 (Heap.IsSliceOf.new ..) pl pu q3) fun T id hT ht hg=>?_;show wpAny (model X.prog X.w) X.A (subscriptTail e (.Slice lo hi none p2) v (.ref s3.heap.objs.size)) (EP X pins σ Q) X.xe {s3 with heap:=s3.heap.push {cls:=.type "slice", data:=.fields #[vl,vu,.none]} };exact tail_any (ops:=[.ref s3.heap.objs.size,v]) ht hT hg (by with_unfolding_all rfl)
noncomputable def cutV (xs:List V) (lo hi:Option Int):List V:=(xs.drop (HT.sIx xs.length 0 lo)).take (HT.sIx xs.length xs.length hi-HT.sIx xs.length 0 lo)
theorem zps (xs:List V) (lo hi:Option Int):(cutV xs lo hi).length<=xs.length:=by
 unfold cutV;rw [W4,Ys];omega
end
end L2
namespace L2
open PySem PySem.Spec PyProof.Rows
noncomputable def ixN (n:Nat) (i:Int):Option Nat:=if 0<=i then (if i<n then some i.toNat else none) else if -(n:Int)<=i then some (i+n).toNat else none
noncomputable def atI {α:Type} (xs:List α) (i:Int):Option α:=(ixN xs.length i).bind fun j=>xs[j]?
theorem zxf {n:Nat} {i:Int} {j:Nat} (h:ixN n i=some j):seqIndex? i n=some j/\j<n /\ -(n:Int)<=i/\i<n:=by
 unfold ixN at h;by_cases h0:0<=i
 ·rw [if_pos h0] at h;by_cases h1:i<n
  ·rw [if_pos h1] at h;have e:i.toNat=j:=Yh h;exact⟨by rw [seqIndex_of h0 h1,e],by omega,by omega,h1⟩
  ·rw [if_neg h1] at h;cases h
 ·rw [if_neg h0] at h;by_cases h1 : -(n:Int)<=i
  ·rw [if_pos h1] at h;have e:(i+n).toNat=j:=Yh h;exact⟨by rw [Bb (by omega) h1,e],by omega,h1,by omega⟩
  ·rw [if_neg h1] at h;cases h
theorem zzb {α:Type} {xs:List α} {i:Int} {v:α} (h:atI xs i=some v):∃ j,seqIndex? i xs.length=some j/\xs[j]? = some v/\j<xs.length /\ -(xs.length:Int)<=i/\i<xs.length:=by
 unfold atI at h;cases e:ixN xs.length i with
 | none=>rw [e] at h;cases h
 | some j=>
  rw [e] at h;refine xk (zxf e) fun h1 h2 h3 h4=>?_;exact⟨j,h1,h,h2,h3,h4⟩
theorem atI_nat {α:Type} {xs:List α} {j:Nat} {v:α} (h:xs[j]? = some v):atI xs (j:Int)=some v:=by
 have hj:j<xs.length:=(Zl.mp h).1;have e:ixN xs.length (j:Int)=some j:=by
  unfold ixN;rw [if_pos (by omega),if_pos (by omega)];simp
 unfold atI;rw [e];exact h
def zzj (b:Expr):Prop:=∀ o i,subscripted b false o i=operate [o,i] (getItem o i)
def IxR (X:Cx) (r:R2):Prop:=
 ∀ (value slice:Expr) (pins:List (Addr×Obj)) (s:Shared) (σ:St) (H:Hp) (x y:V) (v u:Value) (Q:VK),Inv X pins σ H s->RelV x v->RelV y u->r x y H Q ->
  subscripted slice false v u=operate [v,u] (getItem v u)->wpAny (model X.prog X.w) X.A (subscriptTail value slice v u) (EP X pins σ Q) X.xe s
def MtR (X:Cx) (id:String) (r:V->List V->Hp->VK->Prop):Prop:=
 ∀ (pins:List (Addr×Obj)) (s:Shared) (σ:St) (H:Hp) (x:V) (xs:List V) (v:Value) (us:List Value) (Q:VK),Inv X pins σ H s->RelV x v->Vals xs us->r x xs H Q ->
  wpAny (model X.prog X.w) X.A (call (.builtin id) (v::us)) (EP X pins σ Q) X.xe s
section
variable {X:Cx} {a b:Expr} {ta tb:TE} {pos:Pos}
theorem pe_ix {r:R2} (hr:IxR X r) (ha:PE X a ta) (hb:PE X b tb) (hs:zzj b):PE X (.Subscript a b pos) (tOp r ta tb):=by
 intro pins s σ H Q I h;exact Subscript_ (binT ha hb I h fun v u s2 x y H2 I2 rx ry q=>hr a b pins s2 σ H2 x y v u Q I2 rx ry q (hs _ _))
noncomputable def rIxL (K:PySem.W.Frag):R2:=fun x y H Q=>∃ p xs i v,x=.ref p/\y=.int i/\SqL K H p xs/\atI xs i=some v/\Q v H
noncomputable def rIxT (K:PySem.W.Frag):R2:=fun x y H Q=>∃ p xs i v,x=.ref p/\y=.int i/\SqT K H p xs/\atI xs i=some v/\Q v H
theorem yiq:IxR X (rIxL X.K):=by
 intro value slice pins s σ H x y v u Q I rx ry h hs;refine xD h fun p xs i z qz4 qz5 hq he q=>?_;clear h;subst qz4;subst qz5
 cases rx;refine xb ry fun t qz1=>?_;clear ry;subst qz1
 refine xh (I.list hq) fun its r pl hz=>?_;refine xv (zzb he) fun j h1 h2 h3 h4 h5=>?_;refine xa (r.get h2) fun w ew rw'=>?_;have hl:=r.length;have hn:=zrh;have fin:EP X pins σ Q w s:=⟨z,H,I,rw',q⟩;by_cases h0:0<=i
 ·have hj:i.toNat=j:=by
   rw [seqIndex_of h0 h5] at h1;exact Yh h1
  exact item_listR pl.isList h0 (by omega) (by rw [hj];simpa using ew) fin hs
 ·have hj:(i+(its.toArray.size:Int)).toNat=j:=by
   rw [Bb (by omega) h4] at h1;rw [Zr,<- hl];exact Yh h1
  exact G1 (x:=w) pl.isList.typeIs slot_list_getitem.lookup
   (wpAny_getItem_list_neg (Q:=fun r s'=>r=w/\EP X pins σ Q r s') pl.isList (by omega) (by rw [Zr] <;> omega) (by omega) (by rw [hj];simpa using ew) ⟨rfl,fin⟩) hs
theorem ix_tup:IxR X (rIxT X.K):=by
 intro value slice pins s σ H x y v u Q I rx ry h hs;refine xD h fun p xs i z qz4 qz5 hq he q=>?_;clear h;subst qz4;subst qz5
 cases rx;refine xb ry fun t qz1=>?_;clear ry;subst qz1
 refine xh (I.tuple hq) fun its r pl hz=>?_;refine xv (zzb he) fun j h1 h2 h3 h4 h5=>?_;refine xa (r.get h2) fun w ew rw'=>?_;have hl:=r.length;have hn:=zrh;have fin:EP X pins σ Q w s:=⟨z,H,I,rw',q⟩;exact G1 (x:=w) pl.typeIs slot_tuple_getitem.lookup
  (getItem_tuple (j:=j) (Q:=fun r s'=>r=w/\EP X pins σ Q r s') pl (by omega) (by omega) (by rw [Zr,<- hl];exact h1) (by simpa using ew) ⟨rfl,fin⟩) hs
theorem zti (its:List Value) (n j:Nat) (u:Value):Obj.mapSeq (·.setIfInBounds j u) {cls:=.type "list", data:=.seq its.toArray n}={cls:=.type "list", data:=.seq (its.set j u).toArray n}:=by
 simp [Obj.mapSeq]
theorem Inv.lst {pins:List (Addr×Obj)} {σ:St} {H:Hp} {s:Shared} {p:Addr} {xs:List V} (I:Inv X pins σ H s) (h:H p=some (.lst xs)) :
  ∃ (its:List Value) (n:Nat),Vals xs its/\s.heap.get? p=some {cls:=.type "list", data:=.seq its.toArray n}/\xs.length<=sizeLine:=by
 refine xz (I.hok p _ h) fun z its n r e=>?_;exact⟨its,n,r,e,z⟩
theorem Inv.lstUpd {pins:List (Addr×Obj)} {σ:St} {H:Hp} {s:Shared} {p:Addr} {xs ys:List V} {its its':List Value} {n n':Nat} {f:Obj->Obj} (I:Inv X pins σ H s) (h:H p=some (.lst xs))
  (ho:s.heap.get? p=some {cls:=.type "list", data:=.seq its.toArray n}) (hf:f {cls:=.type "list", data:=.seq its.toArray n}={cls:=.type "list", data:=.seq its'.toArray n'}) (r:Vals ys its') (hz:ys.length<=sizeLine) (t:Nat) :
  Inv X pins σ (upd H p (.lst ys)) {s with heap:=s.heap.update p f,toks:=t}:=by
 have e:(s.heap.update p f).get? p=some {cls:=.type "list", data:=.seq its'.toArray n'}:=by
  rw [Yi f ho (by rw [hf] <;> rfl),hf]
 refine I.write (x:=p) (e:=p) (by rw [h];trivial) (.inl rfl) (fun b u hb q=>(Z9 _ _ (Wh hb)).trans q) ⟨_,e⟩ ?_;exact⟨hz,its',n',r,e⟩
noncomputable def rSetL:V->V->V->Hp->(Hp->Prop)->Prop:=fun o i v H Q=>∃ p xs k j,o=.ref p/\i=.int k/\H p=some (.lst xs)/\ixN xs.length k=some j/\Q (upd H p (.lst (xs.set j v)))
theorem yak:PSet X rSetL:=by
 intro pins s σ H o i v ov iv u Q I ro ri rv h;refine xD h fun p xs k j qz4 qz5 hp hj q=>?_;clear h;subst qz4;subst qz5
 cases ro;refine xb ri fun t qz1=>?_;clear ri;subst qz1
 refine xc (I.lst hp) fun its n r ho hz=>?_;refine xk (zxf hj) fun h1 h2 h3 h4=>?_;have hl:=r.length;have hn:=zrh;have I':Inv X pins σ (upd H p (.lst (xs.set j v))) {s with heap:=s.heap.update p (Obj.mapSeq (·.setIfInBounds j u))}:=
  I.lstUpd hp ho (zti its n j u) (r.set rv j) (by rw [Wc];exact hz) s.toks
 by_cases h0:0<=k
 ·have hk:k.toNat=j:=by
   rw [seqIndex_of h0 h4] at h1;exact Yh h1
  exact PySem.W.ki_setAt ho h0 (by omega) (by rw [Zr,<- hl];exact h4) (by rw [hk];exact⟨_,I',q⟩)
 ·have hk:(k+(its.toArray.size:Int)).toNat=j:=by
   rw [Bb (by omega) h3] at h1;rw [Zr,<- hl];exact Yh h1
  exact PySem.W.ki_setBack ho (by omega) (by rw [Zr,<- hl];exact h3) (by omega) (by rw [hk];exact⟨_,I',q⟩)
theorem zmm (lo hi:Option Int) (n:Nat):(sliceBounds lo hi none n).1=((HT.sIx n 0 lo:Nat):Int)/\(sliceBounds lo hi none n).2.1=((HT.sIx n n hi:Nat):Int)/\(sliceBounds lo hi none n).2.2=1:=by
 refine⟨?_,?_,rfl⟩
 ·cases lo with
  | none=>simp [sliceBounds,HT.sIx]
  | some i=>
   simp only [sliceBounds,HT.sIx,Gx,show (1:Int) > 0 by decide,if_true];by_cases h:i<0
   ·simp only [h,if_true] <;> omega
   ·simp only [h,if_false] <;> omega
 ·cases hi with
  | none=>simp [sliceBounds,HT.sIx]
  | some i=>
   simp only [sliceBounds,HT.sIx,Gx,show (1:Int) > 0 by decide,if_true];by_cases h:i<0
   ·simp only [h,if_true] <;> omega
   ·simp only [h,if_false] <;> omega
theorem zkf (its:List Value) (lo hi:Option Int):slicePick its.toArray lo hi none=((its.drop (HT.sIx its.length 0 lo)).take (HT.sIx its.length its.length hi-HT.sIx its.length 0 lo)).toArray:=by
 refine xj (zmm lo hi its.toArray.size) fun h1 h2 h3=>?_;unfold slicePick;rw [h1,h2,h3];simp only [sliceRange_one,pick_run,Zr] <;> rfl
noncomputable def rSlL (K:PySem.W.Frag):V->Option Int->Option Int->Hp->VK->Prop:=fun x lo hi H Q=>∃ a xs,x=.ref a/\SqL K H a xs/\∀ p,H p=none->Q (.ref p) (upd H p (.lst (cutV xs lo hi)))
theorem ygm:SlR X (rSlL X.K):=by
 intro pins s σ H x v vl vu lo hi sl Q I rx hs pl pu h;refine xc h fun a xs qz2 hx q=>?_;clear h;subst qz2
 cases rx;refine xh (I.list hx) fun its r ht hz=>?_;have hlen:=r.length;refine⟨"list", _,slot_list_getitem.lookup,ht.isList.typeIs,?_⟩
 refine wpAny_getItem_list_slice ht.isList hs pl pu .none (by simp) ?_ (by rw [Zr] <;> omega);rw [zkf,<- hlen];refine⟨.ref s.heap.objs.size,_,I.laid (t':=s.toks) (o:=.lst (cutV xs lo hi)) (fun b ob q=>Zf _ q) (Zh _) ?_,rfl,q _ (I.hok.fresh (Zh _))⟩
 exact⟨Y3 (zps xs lo hi) hz,_,0,(r.drop (HT.sIx xs.length 0 lo)).take (HT.sIx xs.length xs.length hi-HT.sIx xs.length 0 lo),Z3 _ rfl⟩
theorem zfy:ziw X (.builtin "len") (fun xs H Q=>∃ p ys,xs=[.ref p]/\(SqL X.K H p ys\/SqT X.K H p ys)/\Q (.int ys.length) H):=by
 intro pins s σ H xs us Q I r h;refine xc h fun p ys qz2 hq q=>?_;clear h;subst qz2
 refine xa (zly r) fun u qz1 rx=>?_;subst qz1
 cases rx;have hn:=zrh;rcases hq with hq | hq
 ·refine xh (I.list hq) fun its r' pl hz=>?_;have hlen:=r'.length;exact Calls.call_len_list pl.isList (by simp only [Zr] <;> omega) ⟨.int ys.length,H,I.tok _,⟨s.toks+1,by rw [Zr,hlen]⟩,q⟩
 ·refine xh (I.tuple hq) fun its r' pl hz=>?_;have hlen:=r'.length;exact len_tuple pl (by simp only [Zr] <;> omega) ⟨.int ys.length,H,I.tok _,⟨s.toks+1,by rw [Zr,hlen]⟩,q⟩
theorem zfx:ziw X (.type "list") (fun xs H Q=>∃ p ys,xs=[.ref p]/\(SqL X.K H p ys\/SqT X.K H p ys)/\∀ l,H l=none->Q (.ref l) (upd H l (.lst ys))):=by
 intro pins s σ H xs us Q I r h;refine xc h fun p ys qz2 hq q=>?_;clear h;subst qz2
 refine xa (zly r) fun u qz1 rx=>?_;subst qz1
 cases rx;have fin:∀ (its:List Value),Vals ys its->ys.length<=sizeLine->∀ (h':Heap) (c':Nat),(∀ b o',s.heap.get? b=some o'->h'.get? b=some o') ->
   h'.get? s.heap.objs.size=some {cls:=.type "list", dict:=none,data:=.seq its.toArray c',slots:=#[]}->EP X pins σ Q (.ref s.heap.objs.size) {s with heap:=h'}:=fun its r' hz h' c' kp e=>
  ⟨.ref s.heap.objs.size,_,I.laid (t':=s.toks) kp (Zh _) (show ObjOk X.prog X.w _ h' _ (.lst ys) from⟨hz,its,c',r',e⟩),rfl,q _ (I.hok.fresh (Zh _))⟩
 rcases hq with hq | hq
 ·refine xh (I.list hq) fun its r' pl hz=>?_;have hlen:=r'.length;refine vd pl.isList fun o ho hc n hd=>?_;exact call_list_seq p (.inl rfl) ho hc hd (fun h' c' kp e=>fin its r' hz h' c' kp e) (by simp only [Zr] <;> omega)
 ·refine xh (I.tuple hq) fun its r' pl hz=>?_;have hlen:=r'.length;refine vd pl fun o ho hc n hd=>?_;clear pl
  exact call_list_seq p (.inr rfl) ho hc hd (fun h' c' kp e=>fin its r' hz h' c' kp e) (by simp only [Zr] <;> omega)
theorem zli:ziw X (.type "tuple") (fun xs H Q=>∃ p ys,xs=[.ref p]/\((SqL X.K H p ys/\∀ l,H l=none->Q (.ref l) (upd H l (.tup ys)))\/(SqT X.K H p ys/\Q (.ref p) H))):=by
 intro pins s σ H xs us Q I r h;obtain⟨p,ys,rfl,h⟩:=h
 obtain⟨u,rfl,rx⟩:=zly r
 cases rx;rcases h with⟨hq,q⟩ | ⟨hq,q⟩
 ·obtain⟨its,r',pl,hz⟩:=I.list hq
  have hlen:=r'.length;refine call_tuple_list pl.isList (fun h' kp=>?_) (by simp only [Zr] <;> omega);have I1:Inv X pins σ H {s with heap:=h'}:=I.kept (t':=s.toks) kp;have I2:Inv X pins σ (upd H h'.objs.size (.tup ys)) {s with heap:=h'.push {cls:=.type "tuple", data:=.seq its.toArray} }:=
   I1.laid (t':=s.toks) (fun b o e=>Zf _ e) (Zh _) (show ObjOk X.prog X.w _ _ _ (.tup ys) from⟨hz,its,r',IsTup.new _ _⟩)
  exact⟨.ref h'.objs.size,_,I2,rfl,q _ (I1.hok.fresh (Zh _))⟩
 ·obtain⟨its,r',pl,hz⟩:=I.tuple hq
  exact call_tuple_same pl ⟨.ref p,H,I,rfl,q⟩
def tyV (K:PySem.W.Frag) (T:String) (x:V) (H:Hp):Prop:=match x with
 | .str _=>T = "str"
 | .int _=>T = "int"
 | .ref p=>(T = "list" /\ ∃ xs,SqL K H p xs)\/(T = "tuple" /\ ∃ o,K.lookup p=some o/\o.cls=.type "tuple" /\ o.dict=none) \/
   (T = "dict" /\ ((∃ kvs,H p=some (.dK kvs))\/∃ kvs,H p=some (.dT kvs)))\/(T = "set" /\ ∃ S n,H p=some (.set S n))
 | _=>False
theorem ydr {pins:List (Addr×Obj)} {σ:St} {H:Hp} {s:Shared} {T:String} {x:V} {v:Value} (I:Inv X pins σ H s) (r:RelV x v) (ty:tyV X.K T x H) :
  s.TypeIs v T/\∀ a,v=.ref a->∃ ob,s.heap.get? a=some ob/\ob.dict=none:=by
 cases x with
 | str z=>
  refine xb r fun t qz1=>?_;clear r;subst qz1
  cases (show T = "str" from ty)
  exact⟨typeIs_str s z t,fun _ e=>nomatch e⟩
 | int i=>
  refine xb r fun t qz1=>?_;clear r;subst qz1
  cases (show T = "int" from ty)
  exact⟨typeIs_int s i t,fun _ e=>nomatch e⟩
 | ref p=>
  cases r;rcases ty with⟨rfl,xs,hq⟩ | ⟨rfl,o,hk,hc,hd⟩ | ⟨rfl,hk⟩ | ⟨rfl,S,n,hk⟩
  ·refine xh (I.list hq) fun its _ pl _=>?_;refine⟨pl.isList.typeIs,fun a e=>?_⟩
   cases e;refine xu pl fun o n e c hd _=>?_;clear pl
   exact⟨o,e,hd⟩
  ·refine⟨⟨o,I.kIn p o hk,hc⟩,fun a e=>?_⟩
   cases e;exact⟨o,I.kIn _ o hk,hd⟩
  ·have z:∃ o,s.heap.get? p=some o/\o.ExactDict:=by
    rcases hk with⟨kvs,hk⟩ | ⟨kvs,hk⟩
    ·obtain⟨_,_,_,_,o,_,_,e,ex,_⟩:=I.hok p _ hk
     exact⟨o,e,ex⟩
    ·obtain⟨_,_,_,_,o,_,_,e,ex,_⟩:=I.hok p _ hk
     exact⟨o,e,ex⟩
   refine xa z fun o e ex=>?_;clear z
   refine⟨⟨o,e,ex.1⟩,fun a e2=>?_⟩
   cases e2;exact⟨o,e,ex.2.1⟩
  ·refine vw (I.hok p _ hk) fun o _ _ _ e ex _=>?_;refine⟨⟨o,e,ex.1⟩,fun a e2=>?_⟩
   cases e2;exact⟨o,e,ex.2.1⟩
 | _=>exact False.elim ty
noncomputable def tBM0 (K:PySem.W.Frag) (T:String) (r:V->List V->Hp->VK->Prop) (to:TE):TE:=fun σ H Q=>to σ H fun x H1=>tyV K T x H1/\r x [] H1 Q
noncomputable def tBM (K:PySem.W.Frag) (T:String) (r:V->List V->Hp->VK->Prop) (to:TE) (t:TA):TE:=fun σ H Q=>to σ H fun x H1=>tyV K T x H1/\t σ H1 fun xs H2=>r x xs H2 Q
variable {o e:Expr} {es:List Expr} {to:TE} {t:TA} {name:Str} {apos cpos:Pos} {T id:String} {r:V->List V->Hp->VK->Prop}
theorem yeg (pa:PlainAttrs T) (slot:Slot T name id) (hty:typeOf (.builtin id)=pure (.type "method_descriptor")) (hm:MtR X id r) (ho:PE X o to)
  (hbase:attributeBase o name X.env (eval o X.env)=eval o X.env:=by rfl) (hline:(apos.endLine == cpos.line)=true:=by rfl):PE X (.Call (.Attribute o name apos) [] [] cpos) (tBM0 X.K T r to):=by
 intro pins s σ H Q I h;refine wpAny_Call_method0_late hbase hline (thn (ho pins s σ H _ I h) fun v s1 hz=>xu hz fun x H1 I1 r1 ty q1=>?_);refine xg (ydr I1 r1 ty) fun h1 h2=>?_;exact⟨T,id,pa,slot,hty,h1,h2,V1 rfl (PySem.evalArgs_none (hm pins s1 σ H1 x [] v [] Q I1 r1 .nil q1))⟩
theorem pe_bm (pa:PlainAttrs T) (slot:Slot T name id) (hty:typeOf (.builtin id)=pure (.type "method_descriptor")) (hm:MtR X id r) (ho:PE X o to) (ha:PA X (e::es) t)
  (hbase:attributeBase o name X.env (eval o X.env)=eval o X.env:=by rfl)
  (hfew:((backTo cpos (starEach (e::es) X.env)).all (fun x=>!x.1) && (backToKw cpos (keywordEach [] X.env)).all (fun x=>x.1.isSome)
   && decide ((e::es).length+([]:List Keyword).length+(if ([]:List Keyword).isEmpty then 0 else 1)<30))=true:=by rfl)
  (hline:(apos.endLine == cpos.line)=true:=by rfl) (hs:starEach (e::es) X.env=(false,eval e X.env)::starEach es X.env:=by rfl) (hplain:(backTo cpos (starEach es X.env)).any (·.1)=false:=by rfl) :
  PE X (.Call (.Attribute o name apos) (e::es) [] cpos) (tBM X.K T r to t):=by
 intro pins s σ H Q I h;refine wpAny_Call_method_late hbase hfew hline rfl (thn (ho pins s σ H _ I h) fun v s1 hz=>xu hz fun x H1 I1 r1 ty q1=>?_);refine xg (ydr I1 r1 ty) fun h1 h2=>?_;refine⟨T,id,pa,slot,hty,h1,h2,?_⟩
 have hA:=ha cpos pins s1 σ H1 _ I1 q1;rw [hs] at hA |-;refine V1 (by show (false || (backTo cpos (starEach es X.env)).any (·.1))=false;rw [hplain] <;> rfl) (Calls.evalArgs_plain ?_);exact thn hA fun us s2 hz=>xc hz fun vs H2 I2 r2 q2=>hm pins s2 σ H2 x vs v us Q I2 r1 r2 q2
end
end L2
namespace L2
open PySem PySem.Spec PyProof.Rows
def MtM (X:Cx) (id:String) (r:V->List V->Hp->VK->Prop):Prop:=
 ∀ (pins:List (Addr×Obj)) (s:Shared) (σ:St) (H:Hp) (x:V) (xs:List V) (v:Value) (us:List Value) (Q:VK),Inv X pins σ H s->RelV x v->Vals xs us->r x xs H Q ->
  wpAny (model X.prog X.w) X.A (call (.builtin id) (v::us)) (EP X pins σ Q) X.xe s
theorem Vals.one:∀ {x:V} {us:List Value},Vals [x] us->∃ u,us=[u]/\RelV x u:=fun h=>by
 cases h with
 | cons r t=>cases t;exact⟨_,rfl,r⟩
theorem Vals.zero:∀ {us:List Value},Vals [] us->us=[]
 | _,.nil=>rfl
theorem Vals.dropLast {xs:List V} {us:List Value} (h:Vals xs us):Vals xs.dropLast us.dropLast:=by
 induction h with
 | nil=>exact .nil
 | cons r t ih=>
  cases t with
  | nil=>exact .nil
  | cons q t'=>exact .cons r ih
theorem Vals.reverse {xs:List V} {us:List Value} (h:Vals xs us):Vals xs.reverse us.reverse:=by
 induction h with
 | nil=>exact .nil
 | cons r t ih=>rw [Y6,Y6];exact Vals.append ih (.cons r .nil)
theorem ztr {α:Type} (l:List α):l.eraseIdx (l.length-1)=l.dropLast:=by
 induction l with
 | nil=>rfl
 | cons a r ih=>
  cases r with
  | nil=>rfl
  | cons b r=>
   have e:(a::b::r).length-1=((b::r).length-1)+1:=by
    have h1:(a::b::r).length=r.length+2:=rfl;have h2:(b::r).length=r.length+1:=rfl;omega
   rw [e,V0,ih]
   all_goals rfl
section
variable {X:Cx} {pins:List (Addr×Obj)} {σ:St} {H:Hp} {s:Shared} {l b:Addr} {xs ys zs:List V}
theorem Inv.lset {its its':List Value} {n:Nat} {f:Array Value->Array Value} {t':Nat} (I:Inv X pins σ H s) (hH:H l=some (.lst xs))
  (e:s.heap.get? l=some {cls:=.type "list", data:=.seq its.toArray n}) (hf:f its.toArray=its'.toArray) (hv:Vals ys its') (hz:ys.length<=sizeLine) :
  Inv X pins σ (upd H l (.lst ys)) {s with heap:=s.heap.update l (Obj.mapSeq f),toks:=t'}:=by
 have q:=PySem.IsL.update e f;rw [hf] at q;refine I.write (x:=l) (e:=l) (by rw [hH];exact trivial) (.inl rfl) (fun b' u hb hu=>(Z9 s.heap (Obj.mapSeq f) (Wh hb)).trans hu) ⟨_,q⟩ ?_;exact⟨hz,its',_,hv,q⟩
theorem Inv.lnew {its:List Value} {t':Nat} (I:Inv X pins σ H s) (hv:Vals ys its) (hz:ys.length<=sizeLine) :
  Inv X pins σ (upd H s.heap.objs.size (.lst ys)) {s with heap:=s.heap.push {cls:=.type "list", data:=.seq its.toArray},toks:=t'}:=
 I.laid (fun _ _ q=>Zf _ q) (Zh _) ⟨hz,its,0,hv,Z3 _ rfl⟩
theorem Inv.fresh (I:Inv X pins σ H s):H s.heap.objs.size=none:=I.hok.fresh (Zh _)
theorem Inv.lstM (I:Inv X pins σ H s) (hH:H l=some (.lst xs)):xs.length<=sizeLine/\∃ (its:List Value) (n:Nat),Vals xs its/\xs.length=its.length/\s.heap.get? l=some {cls:=.type "list", data:=.seq its.toArray n}:=by
 refine xz (I.hok l _ hH) fun z its n r e=>?_;exact⟨z,its,n,r,r.length,e⟩
end
section
variable {X:Cx}
noncomputable def yhc:V->List V->Hp->VK->Prop:=fun x vs H Q=>∃ l xs y,x=.ref l/\vs=[y]/\H l=some (.lst xs)/\xs.length<sizeLine/\Q .non (upd H l (.lst (xs++[y])))
theorem zng:MtM X "list.append" yhc:=by
 intro pins s σ H x vs v us Q I rx rv h;refine xy h fun l xs y qz3 qz4 hH hz q=>?_;clear h;subst qz3;subst qz4
 cases rx;refine xa rv.one fun u qz1 ru=>?_;subst qz1
 refine xA (I.lstM hH) fun z its n r hl e=>?_;refine Go F.slot_list_append ⟨_,e,rfl⟩ F.entry_list_append (F.args_list_append_2 _ _) (PySem.list_append l its.toArray n u (by rw [Zr];omega)) ⟨e,?_⟩;refine⟨.non,_,I.lset (its':=its++[u]) hH e (by simp) (r.append (.cons ru .nil)) ?_,rfl,q⟩
 rw [Zq,V9];omega
noncomputable def rPop:V->List V->Hp->VK->Prop:=fun x vs H Q=>∃ l xs y,x=.ref l/\vs=[]/\H l=some (.lst xs)/\xs[xs.length-1]? = some y/\Q y (upd H l (.lst xs.dropLast))
theorem mt_pop:MtM X "list.pop" rPop:=by
 intro pins s σ H x vs v us Q I rx rv h;refine xy h fun l xs y qz3 qz4 hH hy q=>?_;clear h;subst qz3;subst qz4
 cases rx;have hus:=rv.zero;subst hus;refine xA (I.lstM hH) fun z its n r hl e=>?_;refine xa (r.get hy) fun u hu ru=>?_;have hy':its.toArray[its.toArray.size-1]? = some u:=by
  show its.toArray[its.length-1]? = some u;rw [<- Zy,<- hl];exact hu
 refine Go F.slot_list_pop ⟨_,e,rfl⟩ F.entry_list_pop (F.args_list_pop_1 _) (MeetsSeq.list_pop_last l its.toArray n u hy' (by rw [Zr];omega)) ⟨e,?_⟩;refine⟨y,_,I.lset (its':=its.dropLast) hH e ?_ r.dropLast ?_,ru,q⟩
 ·show its.toArray.eraseIdxIfInBounds (its.toArray.size-1)=its.dropLast.toArray;rw [Zr,List.eraseIdxIfInBounds_toArray,ztr]
 ·rw [Ww];omega
noncomputable def rClear:V->List V->Hp->VK->Prop:=fun x vs H Q=>∃ l xs,x=.ref l/\vs=[]/\H l=some (.lst xs)/\Q .non (upd H l (.lst []))
theorem ybj:MtM X "list.clear" rClear:=by
 intro pins s σ H x vs v us Q I rx rv h;refine xu h fun l xs qz2 qz3 hH q=>?_;clear h;subst qz2;subst qz3
 cases rx;have hus:=rv.zero;subst hus;refine xA (I.lstM hH) fun z its n r hl e=>?_;refine Go F.slot_list_clear ⟨_,e,rfl⟩ F.entry_list_clear (F.args_list_clear_1 _) (AutoSeq1.list_clear_list_0 l its.toArray n (by rw [Zr];omega)) ⟨e,?_⟩;exact⟨.non,_,I.lset (its':=[]) (ys:=[]) hH e rfl .nil (Ya _),rfl,q⟩
end
section
variable {prog:Program} {w:World} {A:Around} {E:Value->Shared->Prop} {s:Shared}
end
section
variable {X:Cx}
end
end L2
namespace Att
open PySem PySem.W PySem.Calls PyProof.Rows
theorem zie {P:Params} {h:Heap}:∀ (ns:List Int) (vs:List Value),WellAll P h vs (ns.map WData.int)->IntsAre vs ns:=by
 intro ns;induction ns with
 | nil=>
  intro vs w;rw [Wn] at w;cases w;exact .nil
 | cons n ns ih=>
  intro vs w;rw [Zv] at w;cases w with
  | cons a b=>
   cases a;exact .cons _ _ (ih _ b)
theorem zvi {l:OpenLaw} {n:Nat} (hn:l.most=some n) {P:Params} {h:Heap} {args:List WData} {vals:List Value}
  (hpre:l.row.toRowW.claim.pre args=true) (hwl:WellAll P h vals args) :
  ∃ a vs ns,vals=[Value.ref a]/\args=[WData.list (ns.map WData.int)]/\h.get? a=some {cls:=.type "list", data:=.seq vs.toArray}/\IntsAre vs ns/\ns.length<=n:=by
 have hsh:WShape.hasAll [] args [.list .int]=true:=(pre_splitW hpre).1;have hc:l.pre.holds [] {args:=args}=true:=(pre_splitW hpre).2;refine xc (hasAllW_cons hsh) fun d r qz2 h1 h2=>?_;subst qz2
 obtain rfl:=hasAllW_nil h2;refine xa (hasW_list h1) fun xs qz1 h3=>?_;subst qz1
 refine xb (items_int h3) fun ns qz1=>?_;subst qz1
 have hlen:ns.length<=n:=by
  unfold OpenLaw.pre at hc;have h4:(WTm.not (.lt (.lit (.int (n:Int))) (.len (.arg 0)))).holds [] {args:=[.list (ns.map .int)]}=true:=by
   have h4:=(holds_andW hc).1;rw [hn] at h4;exact h4
  have h5:=condW_of h4 (w_not (w_lt w_lit (w_len_list (w_arg rfl))));rw [Zd] at h5;refine Nat.le_of_not_lt fun q=>?_;have q':(n:Int)<((ns.length:Nat):Int):=by omega
  first
   | (rw [decide_eq_true q'] at h5;exact absurd h5 (by decide))
   | (simp at h5;omega)
 cases hwl with
 | cons w1 w2=>
  cases w2;cases w1 with
  | list ho hall=>exact⟨_,_,ns,rfl,rfl,ho,zie ns _ hall,hlen⟩
theorem zvn (l:OpenLaw) (args:List WData):l.row.toRowW.claim.post args (.bool true) args=true:=
 postW_of (r:=l.row.toRowW) (X:=(true == true))
  (show WShape.has [] (.bool true) .bool=true by first | rfl | decide | simp [WShape.has,WShape.arms,WShape.armsAll])
  (show (WTm.eq .res (.lit (.bool true))).value [] {args:=args,res:=some (.bool true),after:=args}=some (.bool (true == true)) from w_eq_bool (w_res rfl) w_lit) rfl
theorem attach_call {l:OpenLaw} {n:Nat} {q:Program} {loose:List Str} {XP:(Str->Option Value)->Heap->Prop} {YP:World->Heap->Prop} {d:DefRec}
  (hn:l.most=some n) (hdf:d.params.defaults=[])
  (call:∀ (w:World) (s₀ s₁:Shared) (mg mb:Str->Option Value) (fa:Addr) (o:Obj) (pm cd doc:Value) (a:Addr) (vs:List Value) (ns:List Int),
   Ground q loose [] XP w s₀ mg mb s₁.heap->YP w s₁.heap ->
   s₁.heap.get? fa=some o->o.data=.func (docDef d.name d.params d.body d.scope pm cd doc)->s₁.heap.CodeRec cd d.name->mg d.name=some (.ref fa) ->
   s₁.heap.get? a=some {cls:=.type "list", data:=.seq vs.toArray}->IntsAre vs ns->ns.length<=n->s₁.gens = #[] ->
   codeAny (model l.prog w) callerA (.call (.ref fa) ⟨[.ref a],[]⟩) (fun r s'=>r=.ok (.ret (.bool true))/\OldK s₁.heap s'.heap/\s'.os=s₁.os/\AllBare s'.gens) s₁) :
  WalkO q loose XP YP l.row.toRowW d [] (fun f vs=>PySem.call f vs):=by
 intro w s₀ s₁ mg mb G Y fa o pm cd doc dV kV ho hd hcd hD hmg hg args vals as hpre hlay hrd hwl hlo;obtain rfl:dV=.none:=Dflts.none hD hdf;obtain rfl:kV=.none:=Dflts.noKw hD;refine xy (zvi hn hpre hwl) fun a vs ns qz3 qz4 hobj hints hlen=>?_;subst qz3;subst qz4
 refine enter_call (Ug (call w s₀ s₁ mg mb fa o pm cd doc a vs ns G Y ho (fd_plain hd) hcd hmg hobj hints hlen hg) fun r s' hq=>?_);refine xk hq fun qz0 h2 h3 h4=>?_;clear hq;subst qz0
 exact⟨.inl ⟨.bool true,.bool true,[],rfl,fun _=>rfl,.bool true,zvn l _,fun _=>⟨List.Pairwise.nil,fun _ hm=>(nomatch hm)⟩⟩,h2,h3,h4⟩
section
variable {prog:Program} {w:World} {A:Around} {E:Value->Shared->Prop} {s:Shared} {K:Frag}
end
end Att
namespace L2
open PySem PySem.Spec PyProof.Rows
theorem zlx:∀ {vs:List Value} {ns:List Int},IntsAre vs ns->Vals (ns.map V.int) vs
 | _,_,.nil=>.nil
 | _,_,.cons n t h=>.cons ⟨t,rfl⟩ (zlx h)
def Only (H:Hp):Prop:=∀ b,H b=none\/∃ o xs,H b=some (.frz o (.lst xs))
theorem ybv {P:Program} {w:World} {K:PySem.W.Frag} {mg mb:Str->Option Value} {CX:CXT} {k:Nat} {fa a:Addr} {fd:FuncData} {x:Str} {sp:Sp} {s₁:Shared} {vs:List Value} {ns:List Int}
  (KX:K.In s₁.heap) (hns:s₁.heap.Ns mainGlobals mg) (hb:s₁.heap.Ns builtinsNs mb) (hbb:∀ x:Str,x ≠ "__name__" -> mb x=bootBuiltins x) (hlim:s₁.heap.NoLimit) (hg:s₁.gens = #[])
  (ha:s₁.heap.get? a=some {cls:=.type "list", data:=.seq vs.toArray}) (hi:IntsAre vs ns) (hl:ns.length<=sizeLine) (hr:Room k callerA)
  (F:∀ base:Heap,K.In base->base.Ns mainGlobals mg->FnOk P w K mg base CX k fa fd [x] sp) (hbind:∀ (s:Shared) (u:Value),BindsTo s fd ⟨[u],[]⟩ [(x,u)])
  (hsp:∀ H:Hp,Only H->SqL K H a (ns.map V.int)->sp [.ref a] H (fun v _=>v=.bl true) fun _ _ _=>False)
  (hCX:∀ H e s',CX [] H s₁ (fun _ _ _=>False) e s'->False) :
  codeAny (model P w) callerA (.call (.ref fa) ⟨[.ref a],[]⟩) (fun r s'=>r=.ok (.ret (.bool true))/\OldK s₁.heap s'.heap/\s'.os=s₁.os/\AllBare s'.gens) s₁:=by
 have rv:=zlx hi;have lenV:=hi.length;have core:∀ H:Hp,Only H->SqL K H a (ns.map V.int)->HOk P w H s₁.heap->(∀ b,H b≠none->b=a)->(H a≠none->K.lookup a=none) ->
   codeAny (model P w) callerA (.call (.ref fa) ⟨[.ref a],[]⟩) (fun r s'=>r=.ok (.ret (.bool true))/\OldK s₁.heap s'.heap/\s'.os=s₁.os/\AllBare s'.gens) s₁:=by
  intro H hO hS hok hA hK;have base_of:∀ {b:Addr} {o:Obj},s₁.heap.get? b=some o->H b=none->(hidT s₁.heap H).get? b=some o:=fun e n=>ycd e n
  have noA:∀ {b:Addr} {o:Obj} {es:Array DictEntry} {ep:Nat},s₁.heap.get? b=some o->o.data=.dict es ep->H b=none:=fun {b o es ep} e d=>by
   cases q:H b with
   | none=>rfl
   | some u=>
    have e':b=a:=hA b (by rw [q];simp);subst e';rw [ha] at e;cases e;have d':Data.seq vs.toArray _=Data.dict es ep:=d;cases d'
  have nsK:∀ {b:Addr} {m:Str->Option Value},s₁.heap.Ns b m->(hidT s₁.heap H).Ns b m:=fun {b m} hz=>xw hz fun o es ep e d r=>⟨o,es,ep,base_of e (noA e d),d,r⟩
  have hKb:K.In (hidT s₁.heap H):=fun b o e=>base_of (KX b o e) (by
   cases q:H b with
   | none=>rfl
   | some u=>
    have e':b=a:=hA b (by rw [q];simp);subst e';rw [hK (by rw [q];simp)] at e;cases e)
  have hM:Mod K mg (hidT s₁.heap H):=⟨hKb,nsK hns,⟨mb,nsK hb,hbb⟩,let ⟨mc,h1,h2⟩:=hlim;⟨mc,nsK h1,h2⟩⟩;have e0:Env0 P w K mg (hidT s₁.heap H) callerA [] s₁ H:=⟨rfl,hM,fun b o e=>yhv e,Nat.le_of_eq (zxj _ _),trivial,fun b hb=>absurd (show b∈([]:List Addr) from hb) (by simp),hok,.of_eq hg⟩;refine Ug ((F _ hKb (nsK hns)).run callerA [] s₁ H ⟨[.ref a],[]⟩ [.ref a] [.ref a] _ _ hr e0 (hbind s₁ (.ref a)) (.cons rfl .nil) (hsp H hO hS)) fun r s' h=>?_;cases r with
  | error e=>exact (hCX H e s' h).elim
  | ok fl=>
   cases fl with
   | next=>exact False.elim h
   | brk=>exact False.elim h
   | cont=>exact False.elim h
   | ret u=>
    refine vc h fun v H' os bare un hok' r' q=>?_;clear h
    have q':v=.bl true:=q;subst q';obtain rfl:u=Value.bool true:=r';refine⟨rfl,OldK.of_keep fun b o e=>?_,os,bare⟩
    cases q:H b with
    | none=>exact un.keep b o e q (by intro z;exact absurd (show b∈([]:List Addr) from z) (by simp)) (by simp)
    | some u=>
     rcases hO b with z | ⟨ob,xs,z⟩
     ·rw [q] at z;cases z
     ·have z2:=un.frzs b ob _ z;refine xg (hok b _ z) fun e1 _=>?_;refine xg (hok' b _ z2) fun e2 _=>?_;rw [e] at e1;cases e1;exact e2
 cases hk:K.lookup a with
 | some o=>
  have e:=KX a o hk;rw [ha] at e;cases e;refine core (fun _=>none) (fun _=>.inl rfl) (.inr ⟨_,vs.toArray,_,hk,rfl,rfl,rfl,by rw [Zr,lenV];exact hl,by simpa using rv⟩) (fun b u z=>by have z':(none:Option HO)=some u:=z;cases z') (fun b z=>absurd rfl z) fun z=>absurd rfl z
 | none=>
  refine core (fun b=>if b=a then some (.frz {cls:=.type "list", data:=.seq vs.toArray} (.lst (ns.map V.int))) else none) (fun b=>?_) (.inl (.inr ⟨{cls:=.type "list", data:=.seq vs.toArray},if_pos rfl⟩)) (fun b u z=>?_) (fun b z=>?_) fun _=>hk
  ·by_cases hb:b=a
   ·exact .inr ⟨_,_,if_pos hb⟩
   ·exact .inl (if_neg hb)
  ·by_cases hb:b=a
   ·have z':=(if_pos hb).symm.trans z;cases z';subst hb;exact⟨ha,by rw [Zd];exact hl,vs,_,rv,ha⟩
   ·have z':=(if_neg hb).symm.trans z;cases z'
  ·by_cases hb:b=a
   ·exact hb
   ·exact absurd (if_neg hb) z
end L2
namespace L2
open PySem PySem.Spec PyProof.Rows
noncomputable abbrev KOf {K:PySem.W.Frag} {h:Heap} (_:K.In h):PySem.W.Frag:=K
theorem walk_of {l:PySem.W.OpenLaw} {n k:Nat} {q:Program} {loose:List Str} {XP:(Str->Option Value)->Heap->Prop} {YP:World->Heap->Prop} {d:DefRec} {K:Params->PySem.W.Frag} {CX:World->CXT} {sp:World->Sp} {x:Str}
  (hn:l.most=some n) (hn2:n<=sizeLine) (hdf:d.params.defaults=[]) (hr:Room k callerA)
  (hY:∀ (w:World) (h:Heap),YP w h->(K w.params).In h)
  (F:∀ (w:World) (mg:Str->Option Value) (fa:Addr) (h:Heap),(K w.params).In h->h.Ns mainGlobals mg->mg d.name=some (.ref fa) ->
   ∃ fd:FuncData,(∀ (s:Shared) (u:Value),BindsTo s fd ⟨[u],[]⟩ [(x,u)]) /\
    ∀ base:Heap,(K w.params).In base->base.Ns mainGlobals mg->FnOk l.prog w (K w.params) mg base (CX w) k fa fd [x] (sp w))
  (hsp:∀ (w:World) (H:Hp) (a:Addr) (ns:List Int),ns.length<=n->Only H->SqL (K w.params) H a (ns.map V.int)->sp w [.ref a] H (fun v _=>v=.bl true) fun _ _ _=>False)
  (hCX:∀ (w:World) (H:Hp) (s:Shared) (e:Value) (s':Shared),CX w [] H s (fun _ _ _=>False) e s'->False) :
  PySem.W.WalkO q loose XP YP l.row.toRowW d [] (fun f vs=>PySem.call f vs):=by
 refine Att.attach_call hn hdf fun w s₀ s₁ mg mb fa o pm cd doc a vs ns G Y ho hd hcd hmg hobj hints hlen hg=>?_;have KX:=hY w _ Y;refine xa (F w mg fa _ KX G.T.g hmg) fun fd hb hF=>?_;exact ybv KX G.T.g G.T.b G.T.builtins G.T.nolimit hg hobj hints (Y3 hlen hn2) hr hF hb (fun H hO hS=>hsp w H a ns hlen hO hS) fun H e s'=>hCX w H s₁ e s'
end L2
namespace L2
open PySem PySem.Spec PyProof.Rows
noncomputable def zcj (s:Stmt):Arguments:=match s with
 | .FunctionDef _ a _ _ _ _ _ _ _ _=>a
 | _=>{posonlyargs:=[],args:=[],vararg:=none,kwonlyargs:=[],kw_defaults:=[],kwarg:=none,defaults:=[]}
noncomputable def Bt (s:Stmt):List Stmt:=match s with
 | .FunctionDef _ _ b _ _ _ _ _ _ _=>b
 | _=>[]
noncomputable def Bo (s:Stmt):Scope:=match s with
 | .FunctionDef _ _ _ _ _ _ sc _ _ _=>sc
 | _=>{kind:=.function,names:=[],isGenerator:=false,isCoroutine:=false}
noncomputable abbrev CX0:CXT:=fun _ _ _ _ _ _=>False
noncomputable abbrev E0:XK:=fun _ _ _=>False
theorem pass0 {X:Cx}:zzk CX0 X E0:=fun _ _ _ _ _ _ _ h=>h.elim
structure Fun (K:PySem.W.Frag) (x qual:Str) (st:Stmt) (f:Addr) (fd:FuncData):Prop where
 ex:∃ (oc:Value) (od:Option Addr) (kV doc pm:Value) (an:Option Addr) (cdv ct:Value) (osl:Array (Option Value)),
  fd=PySem.W.fnOf x qual (zcj st) (Bt st) (Bo st) .none kV doc pm an cdv ct/\K.lookup f=some ⟨oc,od,.func fd,osl⟩/\PySem.W.codeIn K cdv qual=true
 kp:PySem.W.keepIn K (.ref f)=true
section
variable {P:Program} {w:World} {K:PySem.W.Frag} {mg:Str->Option Value} {base:Heap}
theorem Fun.ok {x qual:Str} {st:Stmt} {f:Addr} {fd:FuncData} {N ps:List Str} {k:Nat} {sp:Sp} (F:Fun K x qual st f fd) (S:FnScope N ps (Bo st)) (len:∀ vs H Q E,sp vs H Q E->vs.length=ps.length)
  (hbody:∀ (cdv:Value) (A:Around) (outer:List Env) (s:Shared) (H:Hp) (vs:List V) (Q:VK) (E:XK),Room k (A.deeper (envOfC qual (Bo st) s.heap.objs.size f cdv))->sp vs H Q E ->
   ∃ t,PSs (cxOf CX0 P w K mg base N qual (Bo st) f cdv A outer s H E).nox (Bt st) t/\t {nx:=fun _ H'=>Q .non H',rt:=Q} (start N vs) H):FnOk P w K mg base CX0 (k+1) f fd ps sp:=by
 obtain⟨oc,od,kV,doc,pm,an,cdv,ct,osl,rfl,lk,hcd⟩:=F.ex
 refine fn_of lk hcd S len fun A outer s H vs Q E hr hsp=>?_;refine xa (hbody cdv A outer s H vs Q E hr hsp) fun t h q=>?_;exact⟨t,h.nox,q⟩
theorem Fun.binds {x qual:Str} {st:Stmt} {f:Addr} {fd:FuncData} {ps:List Str} (F:Fun K x qual st f fd)
  (h:∀ (kV doc pm:Value) (an:Option Addr) (cdv ct:Value) (us:List Value),us.length=ps.length->bindArgs (PySem.W.fnOf x qual (zcj st) (Bt st) (Bo st) .none kV doc pm an cdv ct) ⟨us,[]⟩=pure (ps.zip us)):Binds K fd ps []:=by
 obtain⟨oc,od,kV,doc,pm,an,cdv,ct,osl,rfl,lk,hcd⟩:=F.ex
 exact .all (h kV doc pm an cdv ct)
theorem yfb {x qual:Str} {st:Stmt} {f:Addr} {oc:Value} {od an:Option Addr} {osl:Array (Option Value)} {kV doc pm cdv ct:Value} (l:K.lookup f=some ⟨oc,od,.func (PySem.W.fnOf x qual (zcj st) (Bt st) (Bo st) .none kV doc pm an cdv ct),osl⟩)
  (c:PySem.W.codeIn K cdv qual=true) (k:PySem.W.keepIn K (.ref f)=true):Fun K x qual st f (PySem.W.fnOf x qual (zcj st) (Bt st) (Bo st) .none kV doc pm an cdv ct):=⟨⟨oc,od,kV,doc,pm,an,cdv,ct,osl,rfl,l,c⟩,k⟩
end
section
variable {X:Cx}
end
theorem iteF {A B:Prop} (h:B):if false=true then A else B:=by
 rw [if_neg Zw];exact h
theorem iteT {A B:Prop} (h:A):if true=true then A else B:=by
 rw [if_pos rfl];exact h
def Same (H H':Hp):Prop:=∀ b o,H b=some o->H' b=some o
theorem Same.refl (H:Hp):Same H H:=fun _ _ h=>h
theorem Same.trans {H H1 H2:Hp} (a:Same H H1) (b:Same H1 H2):Same H H2:=fun c o h=>b c o (a c o h)
theorem Same.free {H H':Hp} (e:Same H H') {l:Addr} (h:H' l=Option.none):H l=Option.none:=by
 cases q:H l with
 | none=>rfl
 | some o=>
  rw [e l o q] at h;cases h
theorem Same.seq {K:PySem.W.Frag} {H H':Hp} {a:Addr} {xs:List V} (e:Same H H') (h:SqL K H a xs):SqL K H' a xs:=by
 rcases h with (h | ⟨o,h⟩) | h
 ·exact .inl (.inl (e _ _ h))
 ·exact .inl (.inr ⟨o,e _ _ h⟩)
 ·exact .inr h
end L2
namespace DL
open PySem L2
inductive D where
 | non | bl (b:Bool) | int (i:Int) | tup (l:List D) | lst (l:List D) | exc (x:Str)
noncomputable def ExcO (a C:Addr):HO:=.ext fun h=>∃ o vs,h.get? a=some o/\o.cls=.ref C/\o.data=.fields vs
mutual
noncomputable def Den (K:PySem.W.Frag) (F:Hp):D->V->Prop
 | .non,v=>v=.non
 | .bl b,v=>v=.bl b
 | .int i,v=>v=.int i
 | .tup l,v=>∃ a xs,v=.ref a/\SqT K F a xs/\DenL K F l xs
 | .lst l,v=>∃ a xs,v=.ref a/\SqL K F a xs/\DenL K F l xs
 | .exc x,v=>∃ a C,v=.ref a/\PySem.W.nsIn K mainGlobals x=some (some (.ref C))/\F a=some (ExcO a C)
noncomputable def DenL (K:PySem.W.Frag) (F:Hp):List D->List V->Prop
 | [],xs=>xs=[]
 | d::l,xs=>∃ v vs,xs=v::vs/\Den K F d v/\DenL K F l vs
end
theorem Same.tup {K:PySem.W.Frag} {H H':Hp} {a:Addr} {xs:List V} (e:Same H H') (h:SqT K H a xs):SqT K H' a xs:=by
 rcases h with (h | ⟨o,h⟩) | h
 ·exact .inl (.inl (e _ _ h))
 ·exact .inl (.inr ⟨o,e _ _ h⟩)
 ·exact .inr h
mutual
theorem Den.mono {K:PySem.W.Frag} {F F':Hp} (s:Same F F'):∀ (d:D) {v:V},Den K F d v->Den K F' d v
 | .non,_,h=>by simpa only [Den] using h
 | .bl _,_,h=>by simpa only [Den] using h
 | .int _,_,h=>by simpa only [Den] using h
 | .tup l,_,h=>by
  simp only [Den] at h |-;refine xc h fun a xs e q r=>?_;clear h
  exact⟨a,xs,e,Same.tup s q,DenL.mono s l r⟩
 | .lst l,_,h=>by
  simp only [Den] at h |-;refine xc h fun a xs e q r=>?_;clear h
  exact⟨a,xs,e,s.seq q,DenL.mono s l r⟩
 | .exc _,_,h=>by
  simp only [Den] at h |-;refine xc h fun a C e q r=>?_;clear h
  exact⟨a,C,e,q,s _ _ r⟩
theorem DenL.mono {K:PySem.W.Frag} {F F':Hp} (s:Same F F'):∀ (l:List D) {xs:List V},DenL K F l xs->DenL K F' l xs
 | [],_,h=>by simpa only [DenL] using h
 | d::l,_,h=>by
  simp only [DenL] at h |-;refine xc h fun v vs e q r=>?_;clear h
  exact⟨v,vs,e,Den.mono s d q,DenL.mono s l r⟩
end
section
variable {K:PySem.W.Frag} {F F':Hp}
theorem DenL.nil:DenL K F [] []:=by simp only [DenL]
theorem DenL.cons {d:D} {l:List D} {v:V} {vs:List V} (h:Den K F d v) (r:DenL K F l vs):DenL K F (d::l) (v::vs):=by
 simp only [DenL];exact⟨v,vs,rfl,h,r⟩
theorem DenL.inv_nil {xs:List V} (h:DenL K F [] xs):xs=[]:=by simpa only [DenL] using h
theorem DenL.inv_cons {d:D} {l:List D} {xs:List V} (h:DenL K F (d::l) xs):∃ v vs,xs=v::vs/\Den K F d v/\DenL K F l vs:=by simpa only [DenL] using h
theorem DenL.length:∀ {l:List D} {xs:List V},DenL K F l xs->xs.length=l.length
 | [],_,h=>by rw [h.inv_nil];rfl
 | d::l,_,h=>by
  refine xc h.inv_cons fun v vs e _ r=>?_;subst e;rw [Zj,Zj,r.length]
theorem DenL.get:∀ {l:List D} {xs:List V} {i:Nat} {d:D},DenL K F l xs->l[i]? = some d->∃ v,xs[i]? = some v/\Den K F d v
 | [],_,_,_,_,e=>by simp at e
 | d::l,_,0,d',h,e=>by
  refine xc h.inv_cons fun v vs z q r=>?_;subst z;simp at e;subst e
  exact⟨v,by simp,q⟩
 | d::l,_,i+1,d',h,e=>by
  refine xc h.inv_cons fun v vs z q r=>?_;subst z;refine xa (DenL.get (i:=i) (d:=d') r (by simpa using e)) fun u h1 h2=>?_;exact⟨u,by simpa using h1,h2⟩
theorem DenL.at:∀ {l:List D} {xs:List V} {i:Nat} {v:V},DenL K F l xs->xs[i]? = some v->∃ d,l[i]? = some d/\Den K F d v
 | [],_,_,_,h,e=>by rw [h.inv_nil] at e;simp at e
 | d::l,_,0,v',h,e=>by
  refine xc h.inv_cons fun v vs z q r=>?_;subst z;simp at e;subst e
  exact⟨d,by simp,q⟩
 | d::l,_,i+1,v',h,e=>by
  refine xc h.inv_cons fun v vs z q r=>?_;subst z;refine xa (DenL.at (i:=i) (v:=v') r (by simpa using e)) fun u h1 h2=>?_;exact⟨u,by simpa using h1,h2⟩
theorem DenL.append:∀ {l m:List D} {xs ys:List V},DenL K F l xs->DenL K F m ys->DenL K F (l++m) (xs++ys)
 | [],_,_,_,h,q=>by rw [h.inv_nil];simpa using q
 | d::l,m,_,ys,h,q=>by
  refine xc h.inv_cons fun v vs z p r=>?_;subst z;exact DenL.cons p (DenL.append r q)
theorem DenL.take:∀ {l:List D} {xs:List V} (n:Nat),DenL K F l xs->DenL K F (l.take n) (xs.take n)
 | [],_,n,h=>by rw [h.inv_nil];simpa using DenL.nil
 | _::_,_,0,_=>by simpa using DenL.nil
 | d::l,_,n+1,h=>by
  refine xc h.inv_cons fun v vs z p r=>?_;subst z;exact DenL.cons p (DenL.take n r)
theorem DenL.drop:∀ {l:List D} {xs:List V} (n:Nat),DenL K F l xs->DenL K F (l.drop n) (xs.drop n)
 | [],_,n,h=>by rw [h.inv_nil];simpa using DenL.nil
 | _::_,_,0,h=>by simpa using h
 | d::l,_,n+1,h=>by
  refine xc h.inv_cons fun v vs z p r=>?_;subst z;simpa using DenL.drop n r
theorem DenL.ints:∀ (ns:List Int),DenL K F (ns.map D.int) (ns.map V.int)
 | []=>DenL.nil
 | n::ns=>DenL.cons (by simp only [Den]) (DenL.ints ns)
theorem Den.int {i:Int} {v:V} (h:Den K F (.int i) v):v=.int i:=by simpa only [Den] using h
theorem Den.bl {b:Bool} {v:V} (h:Den K F (.bl b) v):v=.bl b:=by simpa only [Den] using h
theorem Den.non {v:V} (h:Den K F .non v):v=.non:=by simpa only [Den] using h
theorem Den.tup {l:List D} {v:V} (h:Den K F (.tup l) v):∃ a xs,v=.ref a/\SqT K F a xs/\DenL K F l xs:=by simpa only [Den] using h
theorem Den.lst {l:List D} {v:V} (h:Den K F (.lst l) v):∃ a xs,v=.ref a/\SqL K F a xs/\DenL K F l xs:=by simpa only [Den] using h
theorem Den.exc {x:Str} {v:V} (h:Den K F (.exc x) v):∃ a C,v=.ref a/\PySem.W.nsIn K mainGlobals x=some (some (.ref C))/\F a=some (ExcO a C):=by simpa only [Den] using h
theorem Den.int_mk {i:Int}:Den K F (.int i) (.int i):=by simp only [Den]
theorem Den.bl_mk {b:Bool}:Den K F (.bl b) (.bl b):=by simp only [Den]
theorem Den.non_mk:Den K F .non .non:=by simp only [Den]
theorem Den.tup_mk {l:List D} {a:Addr} {xs:List V} (q:SqT K F a xs) (r:DenL K F l xs):Den K F (.tup l) (.ref a):=by simp only [Den];exact⟨a,xs,rfl,q,r⟩
theorem Den.lst_mk {l:List D} {a:Addr} {xs:List V} (q:SqL K F a xs) (r:DenL K F l xs):Den K F (.lst l) (.ref a):=by simp only [Den];exact⟨a,xs,rfl,q,r⟩
end
inductive W where
 | val (d:D) | new (l:List D)
noncomputable def W.d:W->D
 | .val d=>d
 | .new l=>.lst l
noncomputable abbrev Rho:=List (Option D)
structure ER (K:PySem.W.Frag) (H0 Fc F H:Hp) (σ:St) (ρ:Rho):Prop where
 sub:Same F H
 same:Same H0 H
 base:Same Fc F
 new:∀ a o,F a=some o->Fc a=some o\/H0 a=none
 env:∀ (i:Nat) d,ρ[i]? = some (some d)->∃ v,σ[i]? = some (some v)/\Den K F d v
noncomputable def RW (K:PySem.W.Frag) (H0 F H:Hp):W->V->Prop
 | .val d,v=>Den K F d v
 | .new l,v=>∃ a xs,v=.ref a/\F a=none/\H0 a=none/\H a=some (.lst xs)/\DenL K F l xs
theorem zcc {F:Hp} {a:Addr} {o:HO} (h:F a=none):Same F (upd F a o):=fun b u e=>by
 rw [B3 (fun z=>by subst z;rw [h] at e;cases e)];exact e
section
variable {K:PySem.W.Frag} {H0 Fc F H:Hp} {σ:St} {ρ:Rho}
theorem ER.lay (R:ER K H0 Fc F H σ ρ) {a:Addr} (o:HO) (hn:H a=none):ER K H0 Fc (upd F a o) (upd H a o) σ ρ/\Same F (upd F a o):=by
 have hF:F a=none:=by
  cases q:F a with
  | none=>rfl
  | some u=>rw [R.sub a u q] at hn;cases hn
 have h0:H0 a=none:=R.same.free hn;have sF:=zcc (o:=o) hF;refine⟨⟨fun b u e=>?_,R.same.trans (zcc hn),R.base.trans sF,fun b u e=>?_,fun i d e=>?_⟩,sF⟩
 ·by_cases hb:b=a
  ·subst hb;rw [Bz] at e |-;exact e
  ·rw [B3 hb] at e |-;exact R.sub b u e
 ·by_cases hb:b=a
  ·subst hb;exact .inr h0
  ·rw [B3 hb] at e;exact R.new b u e
 ·refine xa (R.env i d e) fun v h1 h2=>?_;exact⟨v,h1,h2.mono sF⟩
theorem ER.freeze (R:ER K H0 Fc F H σ ρ) {a:Addr} {xs:List V} (hF:F a=none) (h0:H0 a=none) (hH:H a=some (.lst xs)):ER K H0 Fc (upd F a (.lst xs)) H σ ρ/\Same F (upd F a (.lst xs)):=by
 have sF:=zcc (o:=.lst xs) hF;refine⟨⟨fun b u e=>?_,R.same,R.base.trans sF,fun b u e=>?_,fun i d e=>?_⟩,sF⟩
 ·by_cases hb:b=a
  ·subst hb;rw [Bz] at e;cases e;exact hH
  ·rw [B3 hb] at e;exact R.sub b u e
 ·by_cases hb:b=a
  ·subst hb;exact .inr h0
  ·rw [B3 hb] at e;exact R.new b u e
 ·refine xa (R.env i d e) fun v h1 h2=>?_;exact⟨v,h1,h2.mono sF⟩
theorem RW.freeze {w:W} {v:V} (R:ER K H0 Fc F H σ ρ) (h:RW K H0 F H w v):∃ F',Same F F'/\ER K H0 Fc F' H σ ρ/\Den K F' w.d v:=by
 cases w with
 | val d=>exact⟨F,Same.refl _,R,h⟩
 | new l=>
  refine xm h fun a xs e hF h0 hH r=>?_;clear h
  subst e;refine xg (R.freeze hF h0 hH) fun R' s=>?_;exact⟨_,s,R',Den.lst_mk (SqL.of Bz) (r.mono s)⟩
end
section
variable (K:PySem.W.Frag) (H0 Fc:Hp) (ρ:Rho)
noncomputable def tD (w:W):TE:=fun σ H Q=>∃ F,ER K H0 Fc F H σ ρ/\∀ v H' F',Same F F'->ER K H0 Fc F' H' σ ρ->RW K H0 F' H' w v->Q v H'
noncomputable def tDf (d:D):TE:=fun σ H Q=>∃ F,ER K H0 Fc F H σ ρ/\∀ v H' F',Same F F'->ER K H0 Fc F' H' σ ρ->Den K F' d v->Q v H'
noncomputable def tDA (ds:List D):TA:=fun σ H Q=>∃ F,ER K H0 Fc F H σ ρ/\∀ vs H' F',Same F F'->ER K H0 Fc F' H' σ ρ->DenL K F' ds vs->Q vs H'
noncomputable def tDT (b:Bool):TT:=fun σ H Q=>∃ F,ER K H0 Fc F H σ ρ/\∀ H' F',Same F F'->ER K H0 Fc F' H' σ ρ->Q b H'
end
theorem PE.mono {X:Cx} {e:Expr} {t t':TE} (h:PE X e t) (k:∀ σ H Q,t' σ H Q->t σ H Q):PE X e t':=fun pins s σ H Q I q=>h pins s σ H Q I (k σ H Q q)
theorem PT.mono {X:Cx} {e:Expr} {t t':TT} (h:PT X e t) (k:∀ σ H Q,t' σ H Q->t σ H Q):PT X e t':=fun pins s σ H Q I q=>h pins s σ H Q I (k σ H Q q)
theorem PW.mono {X:Cx} {e:Expr} {t t':TT} (h:PW X e t) (k:∀ σ H Q,t' σ H Q->t σ H Q):PW X e t':=fun wh pins s σ H Q I q=>h wh pins s σ H Q I (k σ H Q q)
theorem PA.mono {X:Cx} {e:List Expr} {t t':TA} (h:PA X e t) (k:∀ σ H Q,t' σ H Q->t σ H Q):PA X e t':=fun pos pins s σ H Q I q=>h pos pins s σ H Q I (k σ H Q q)
theorem PS.mono {X:Cx} {e:Stmt} {t t':TS} (h:PS X e t) (k:∀ D σ H,t' D σ H->t D σ H):PS X e t':=fun pins s σ H D I q=>h pins s σ H D I (k D σ H q)
theorem PSs.mono {X:Cx} {e:List Stmt} {t t':TS} (h:PSs X e t) (k:∀ D σ H,t' D σ H->t D σ H):PSs X e t':=fun pins s σ H D I q=>h pins s σ H D I (k D σ H q)
def DE (X:Cx) (e:Expr) (ρ:Rho) (w:W):Prop:=∀ H0 Fc,PE X e (tD X.K H0 Fc ρ w)
def DF (X:Cx) (e:Expr) (ρ:Rho) (d:D):Prop:=∀ H0 Fc,PE X e (tDf X.K H0 Fc ρ d)
def DA (X:Cx) (es:List Expr) (ρ:Rho) (ds:List D):Prop:=∀ H0 Fc,PA X es (tDA X.K H0 Fc ρ ds)
def DT (X:Cx) (e:Expr) (ρ:Rho) (b:Bool):Prop:=∀ H0 Fc,PT X e (tDT X.K H0 Fc ρ b)
def DW (X:Cx) (e:Expr) (ρ:Rho) (b:Bool):Prop:=∀ H0 Fc,PW X e (tDT X.K H0 Fc ρ b)
section
variable {X:Cx} {e a b c:Expr} {es:List Expr} {ρ:Rho} {w:W} {pos:Pos}
theorem DE.df (h:DE X e ρ w):DF X e ρ w.d:=fun H0 Fc=>PE.mono (h H0 Fc) fun σ H Q hz=>xa hz fun F R k=>
 ⟨F,R,fun v H' F' s R' q=>by
  refine xh (RW.freeze R' q) fun F2 s2 R2 q2=>?_;exact k v H' F2 (s.trans s2) R2 q2⟩
theorem DF.de {d:D} (h:DF X e ρ d):DE X e ρ (.val d):=fun H0 Fc=>PE.mono (h H0 Fc) fun σ H Q hz=>xa hz fun F R k=>⟨F,R,fun v H' F' s R' q=>k v H' F' s R' q⟩
theorem DF.var {i:Nat} {x:Str} {d:D} (hN:X.N[i]? = some x) (hv:Vis X.env.scope x) (hd:(x == ("__debug__" : Str))=false) (hcd:(x == ("__classdict__" : Str))=false) (hr:ρ[i]? = some (some d)):DF X (.Name x pos) ρ d:=fun H0 Fc=>
 PE.mono (zfr hN hv hd hcd) fun σ H Q hz=>xa hz fun F R k=>by
  refine xa (R.env i d hr) fun v h1 h2=>?_;exact⟨v,h1,k v H F (Same.refl _) R h2⟩
theorem DF.cint {i:Int} {j}:DF X (.Constant (.int i) j pos) ρ (.int i):=fun H0 Fc=>PE.mono pe_int fun σ H Q hz=>xa hz fun F R k=>k _ H F (Same.refl _) R Den.int_mk
theorem DF.cbl {i:Bool} {j}:DF X (.Constant (.bool i) j pos) ρ (.bl i):=fun H0 Fc=>PE.mono pe_bl fun σ H Q hz=>xa hz fun F R k=>k _ H F (Same.refl _) R Den.bl_mk
theorem DF.cnon {j}:DF X (.Constant .none j pos) ρ .non:=fun H0 Fc=>PE.mono pe_non fun σ H Q hz=>xa hz fun F R k=>k _ H F (Same.refl _) R Den.non_mk
theorem zdq {x y:D} {H0 Fc:Hp} {r:R2} {w:W} {K:PySem.W.Frag}
  (hr:∀ H F σ v u (Q:VK),ER K H0 Fc F H σ ρ->Den K F x v->Den K F y u->(∀ v' H' F',Same F F'->ER K H0 Fc F' H' σ ρ->RW K H0 F' H' w v'->Q v' H')->r v u H Q) :
  ∀ σ H Q,tD K H0 Fc ρ w σ H Q->tOp r (tDf K H0 Fc ρ x) (tDf K H0 Fc ρ y) σ H Q:=fun σ H Q hz=>xa hz fun F R k=>
 ⟨F,R,fun v H1 F1 s1 R1 q1=>⟨F1,R1,fun u H2 F2 s2 R2 q2=>hr H2 F2 σ v u Q R2 (q1.mono s2) q2 fun v' H' F' s' R' q'=>k v' H' F' ((s1.trans s2).trans s') R' q'⟩⟩
theorem DE.opI {op:Operator} {C:Int->Int->Prop} {g:Int->Int->V} {x y:Int} {z:D} (ho:OpR X (binaryOp op) (rI C g)) (ha:DF X a ρ (.int x)) (hb:DF X b ρ (.int y)) (hc:C x y) (hz:∀ K F,Den K F z (g x y)) :
  DE X (.BinOp a op b pos) ρ (.val z):=fun H0 Fc=>PE.mono (yhk ho (ha H0 Fc) (hb H0 Fc)) (zdq fun H F σ v u Q R qv qu k=>by
   have e1:=qv.int;have e2:=qu.int;subst e1;subst e2;exact⟨x,y,rfl,rfl,hc,k _ H F (Same.refl _) R (hz _ _)⟩)
theorem DE.opI0 {op:Operator} {g:Int->Int->V} {x y:Int} {z:D} (ho:OpR X (binaryOp op) (rI0 g)) (ha:DF X a ρ (.int x)) (hb:DF X b ρ (.int y)) (hz:∀ K F,Den K F z (g x y)) :
  DE X (.BinOp a op b pos) ρ (.val z):=fun H0 Fc=>PE.mono (yhk ho (ha H0 Fc) (hb H0 Fc)) (zdq fun H F σ v u Q R qv qu k=>by
   have e1:=qv.int;have e2:=qu.int;subst e1;subst e2;exact⟨x,y,rfl,rfl,k _ H F (Same.refl _) R (hz _ _)⟩)
end
end DL
namespace DL
open PySem L2 PyProof.Rows
section
variable {K:PySem.W.Frag} {H0 Fc F H:Hp} {σ:L2.St} {ρ:Rho}
theorem ER.put (R:ER K H0 Fc F H σ ρ) {a:Addr} (o:HO) (hn:H a=none):ER K H0 Fc F (upd H a o) σ ρ/\F a=none/\H0 a=none:=by
 have hF:F a=none:=by
  cases q:F a with
  | none=>rfl
  | some u=>rw [R.sub a u q] at hn;cases hn
 exact⟨⟨R.sub.trans (zcc hn),R.same.trans (zcc hn),R.base,R.new,R.env⟩,hF,R.same.free hn⟩
end
section
variable {K:PySem.W.Frag} {H0 F H:Hp}
theorem RW.v {d:D} {v:V} (h:Den K F d v):RW K H0 F H (.val d) v:=h
theorem RW.int {i:Int}:RW K H0 F H (.val (.int i)) (.int i):=RW.v Den.int_mk
theorem RW.bl {i:Bool}:RW K H0 F H (.val (.bl i)) (.bl i):=RW.v Den.bl_mk
theorem RW.n {l:List D} {a:Addr} {xs:List V} (h1:F a=none) (h2:H0 a=none) (h3:H a=some (.lst xs)) (h4:DenL K F l xs):RW K H0 F H (.new l) (.ref a):=⟨a,xs,rfl,h1,h2,h3,h4⟩
end
section
variable {X:Cx} {e a b c:Expr} {es:List Expr} {ρ:Rho} {w:W} {pos:Pos}
theorem yfv {x:D} {H0 Fc:Hp} {r:V->Hp->VK->Prop} {w:W} {K:PySem.W.Frag}
  (hr:∀ H F σ v (Q:VK),ER K H0 Fc F H σ ρ->Den K F x v->(∀ v' H' F',Same F F'->ER K H0 Fc F' H' σ ρ->RW K H0 F' H' w v'->Q v' H')->r v H Q) :
  ∀ σ H Q,tD K H0 Fc ρ w σ H Q->tUn r (tDf K H0 Fc ρ x) σ H Q:=fun σ H Q hz=>xa hz fun F R k=>
 ⟨F,R,fun v H1 F1 s1 R1 q1=>hr H1 F1 σ v Q R1 q1 fun v' H' F' s' R' q'=>k v' H' F' (s1.trans s') R' q'⟩
theorem DE.neg {x:Int} (ha:DF X a ρ (.int x)):DE X (.UnaryOp .USub a pos) ρ (.val (.int (-x))):=fun H0 Fc=>PE.mono (pe_un un_neg (ha H0 Fc)) (yfv fun H F σ v Q R qv k=>by
 have e1:=qv.int;subst e1;exact⟨x,rfl,k _ H F (Same.refl _) R RW.int⟩)
noncomputable def Bs:Expr->Bool
 | .Starred _ _=>false
 | _=>true
theorem Bx {env:Env} (h:Bs e=true):starEach (e::es) env=(false,eval e env)::starEach es env:=by
 cases e <;> first | rfl | (cases h;done)
theorem zcl {env:Env}:∀ {es:List Expr},es.all Bs=true->(backTo pos (starEach es env)).any (·.1)=false
 | [],_=>rfl
 | e::es,h=>by
  rw [W7,Zm] at h;rw [Bx h.1];show (false || (backTo pos (starEach es env)).any (·.1))=false;rw [zcl h.2];rfl
theorem DA.nil:DA X [] ρ []:=fun H0 Fc=>PA.mono zvw fun σ H Q hz=>xa hz fun F R k=>k [] H F (Same.refl _) R DenL.nil
theorem DA.cons {d:D} {ds:List D} (ha:DF X e ρ d) (hr:DA X es ρ ds) (hs:Bs e=true):DA X (e::es) ρ (d::ds):=fun H0 Fc=>
 PA.mono (zkn (ha H0 Fc) (hr H0 Fc) (Bx hs)) fun σ H Q hz=>xa hz fun F R k=>
  ⟨F,R,fun v H1 F1 s1 R1 q1=>⟨F1,R1,fun vs H2 F2 s2 R2 q2=>k (v::vs) H2 F2 (s1.trans s2) R2 (DenL.cons (q1.mono s2) q2)⟩⟩
theorem DE.tup {ds:List D} {x1} (ha:DA X es ρ ds) (hl:ds.length<=sizeLine):DE X (.Tuple es x1 pos) ρ (.val (.tup ds)):=fun H0 Fc=>PE.mono (pe_tup (ha H0 Fc)) fun σ H Q hz=>xa hz fun F R k=>
 ⟨F,R,fun vs H1 F1 s1 R1 q1=>⟨by rw [q1.length];exact hl,fun p hp=>by
  refine xg (R1.lay (.tup vs) hp) fun R2 s2=>?_;exact k _ _ _ (s1.trans s2) R2 (RW.v (Den.tup_mk (SqT.of Bz) (q1.mono s2)))⟩⟩
theorem DE.lst {ds:List D} (ha:DA X es ρ ds) (hl:ds.length<=sizeLine):DE X (.List es pos) ρ (.new ds):=fun H0 Fc=>PE.mono (pe_lst (ha H0 Fc)) fun σ H Q hz=>xa hz fun F R k=>
 ⟨F,R,fun vs H1 F1 s1 R1 q1=>⟨by rw [q1.length];exact hl,fun p hp=>by
  refine xj (R1.put (.lst vs) hp) fun R2 hF h0=>?_;exact k _ _ _ s1 R2 (RW.n hF h0 Bz q1)⟩⟩
noncomputable def zdk:Expr->Bool
 | .Slice _ _ _ _=>false
 | _=>true
theorem zvp (h:zdk b=true):zzj b:=fun o i=>by
 cases b <;> first | rfl | (cases h;done)
theorem zzc {K:PySem.W.Frag} {F:Hp} {l:List D} {xs:List V} {i:Int} {d:D} (h:DenL K F l xs) (e:atI l i=some d):∃ v,atI xs i=some v/\Den K F d v:=by
 unfold atI at e |-;rw [h.length];cases q:ixN l.length i with
 | none=>rw [q] at e;cases e
 | some j=>
  rw [q] at e;exact h.get e
theorem DE.ixT {l:List D} {i:Int} {d:D} (ha:DF X a ρ (.tup l)) (hb:DF X b ρ (.int i)) (hs:zdk b=true) (hi:atI l i=some d):DE X (.Subscript a b pos) ρ (.val d):=fun H0 Fc=>
 PE.mono (pe_ix ix_tup (ha H0 Fc) (hb H0 Fc) (zvp hs)) (zdq fun H F σ v u Q R qv qu k=>by
  refine xc qv.tup fun p xs e1 sq r=>?_;have e2:=qu.int;subst e1;subst e2;refine xa (zzc r hi) fun y h1 h2=>?_;exact⟨p,xs,i,y,rfl,rfl,Same.tup R.sub sq,h1,k _ H F (Same.refl _) R (RW.v h2)⟩)
theorem DE.ixL {l:List D} {i:Int} {d:D} (ha:DF X a ρ (.lst l)) (hb:DF X b ρ (.int i)) (hs:zdk b=true) (hi:atI l i=some d):DE X (.Subscript a b pos) ρ (.val d):=fun H0 Fc=>
 PE.mono (pe_ix yiq (ha H0 Fc) (hb H0 Fc) (zvp hs)) (zdq fun H F σ v u Q R qv qu k=>by
  refine xc qv.lst fun p xs e1 sq r=>?_;have e2:=qu.int;subst e1;subst e2;refine xa (zzc r hi) fun y h1 h2=>?_;exact⟨p,xs,i,y,rfl,rfl,R.sub.seq sq,h1,k _ H F (Same.refl _) R (RW.v h2)⟩)
def DO (X:Cx) (e:Option Expr) (ρ:Rho) (o:Option Int):Prop:=∀ H0 Fc,PO X e (fun σ H Q=>∃ F,ER X.K H0 Fc F H σ ρ/\∀ H' F',Same F F'->ER X.K H0 Fc F' H' σ ρ->Q o H')
theorem DO.none:DO X none ρ none:=fun H0 Fc pins s σ H Q I hz=>xa hz fun F R k=>yhj pins s σ H Q I (k H F (Same.refl _) R)
theorem DO.some {i:Int} (h:DF X e ρ (.int i)):DO X (some e) ρ (some i):=fun H0 Fc pins s σ H Q I hz=>xa hz fun F R k=>yhi (h H0 Fc) pins s σ H Q I
 ⟨F,R,fun v H' F' s' R' q'=>⟨i,q'.int,k H' F' s' R'⟩⟩
noncomputable def cutD (l:List D) (lo hi:Option Int):List D:=(l.drop (HT.sIx l.length 0 lo)).take (HT.sIx l.length l.length hi-HT.sIx l.length 0 lo)
theorem ycn {K:PySem.W.Frag} {F:Hp} {l:List D} {xs:List V} {lo hi:Option Int} (h:DenL K F l xs):DenL K F (cutD l lo hi) (cutV xs lo hi):=by
 unfold cutD cutV;rw [h.length];exact (h.drop _).take _
theorem DE.slL {l:List D} {lo hi:Option Expr} {i j:Option Int} {p2:Pos} (ha:DF X a ρ (.lst l)) (hl:DO X lo ρ i) (hh:DO X hi ρ j):DE X (.Subscript a (.Slice lo hi none p2) pos) ρ (.new (cutD l i j)):=fun H0 Fc=>
 PE.mono (yax ygm (ha H0 Fc) (hl H0 Fc) (hh H0 Fc)) fun σ H Q hz=>xa hz fun F R k=>⟨F,R,fun v H1 F1 s1 R1 q1=>⟨F1,R1,fun H2 F2 s2 R2=>⟨F2,R2,fun H3 F3 s3 R3=>by
  refine xc q1.lst fun p xs e1 sq r=>?_;subst e1;refine⟨p,xs,rfl,R3.sub.seq (s3.seq (s2.seq sq)),fun q hq=>?_⟩
  refine xj (R3.put (.lst (cutV xs i j)) hq) fun R4 hF h0=>?_;exact k _ _ _ (s1.trans (s2.trans s3)) R4 (RW.n hF h0 Bz (ycn ((r.mono s2).mono s3)))⟩⟩⟩
noncomputable def spD (K:PySem.W.Frag) (n:Nat) (φ:List D->Option W):Sp:=fun vs H Q _=>∃ F ds w,Same F H/\DenL K F ds vs/\ds.length=n/\φ ds=some w /\
 ∀ v H' F',Same H H'->Same F F'->Same F' H'->(∀ a o,F' a=some o->F a=some o\/H a=none)->RW K H F' H' w v->Q v H'
def yfp (X:Cx) (x:Str) (n:Nat) (φ:List D->Option W):Prop:=∃ (k:Nat) (f:Addr) (fd:FuncData) (ps:List Str),
 FnOk X.prog X.w X.K X.mg X.base CX0 k f fd ps (spD X.K n φ)/\Room k X.A/\X.mg x=some (.ref f)/\PySem.W.keepIn X.K (.ref f)=true/\Binds X.K fd ps []
theorem ER.called {K:PySem.W.Frag} {H0 Fc F H F' H':Hp} {σ:L2.St} {ρ:Rho} (R:ER K H0 Fc F H σ ρ) (s1:Same H H') (s2:Same F F') (s3:Same F' H') (hn:∀ a o,F' a=some o->F a=some o\/H a=none):ER K H0 Fc F' H' σ ρ:=
 ⟨s3,R.same.trans s1,R.base.trans s2,fun a o e=>(hn a o e).elim (R.new a o) fun z=>.inr (R.same.free z),fun i d e=>by
  refine xa (R.env i d e) fun v h1 h2=>?_;exact⟨v,h1,h2.mono s2⟩⟩
theorem DE.call {x:Str} {p:Pos} {n:Nat} {φ:List D->Option W} {ds:List D} (hc:yfp X x n φ) (hg:Gl X x) (hdb:(x == ("__debug__" : Str))=false) (ha:DA X (e::es) ρ ds) (hn:ds.length=n) (hw:φ ds=some w) (hs:Bs e=true) (hss:es.all Bs=true) :
  DE X (.Call (.Name x p) (e::es) [] pos) ρ w:=fun H0 Fc=>by
 refine xD hc fun k f fd ps G hr hm hk hb=>?_;clear hc
 refine PE.mono (yhm (E:=E0) G hr hg hm hk hb .nil pass0 (ha H0 Fc) hdb (Bx hs) (zcl hss)) fun σ H Q hz=>xa hz fun F R k=>⟨F,R,fun vs H1 F1 s1 R1 q1=>?_⟩
 refine⟨F1,ds,w,R1.sub,by rw [Wk];exact q1,hn,hw,fun v H' F' a1 a2 a3 a4 a5=>k v H' F' (s1.trans a2) (R1.called a1 a2 a3 a4) ?_⟩
 cases w with
 | val d=>exact a5
 | new l=>
  refine xm a5 fun a xs e1 b1 b2 b3 b4=>?_;clear a5
  exact⟨a,xs,e1,b1,R1.same.free b2,b3,b4⟩
theorem DT.val {e:Expr} {k:Bool} (h:DF X e ρ (.bl k)) (he:∀ whole,isTrue e X.env whole=(do let v <- whole;standAt e.pos;holding [v] (truthy v))):DT X e ρ k:=fun H0 Fc=>
 PT.mono (pt_val (h H0 Fc) he) fun σ H Q hz=>xa hz fun F R q=>⟨F,R,fun v H1 F1 s1 R1 q1=>⟨k,q1.bl,q H1 F1 s1 R1⟩⟩
theorem DT.not {k:Bool} (h:DT X a ρ k):DT X (.UnaryOp .Not a pos) ρ (!k):=fun H0 Fc=>PT.mono (pt_not (h H0 Fc)) fun σ H Q hz=>xa hz fun F R q=>⟨F,R,fun H1 F1 s1 R1=>q H1 F1 s1 R1⟩
theorem DW.dt {k:Bool} (h:DW X e ρ k):DT X e ρ k:=fun H0 Fc=>(h H0 Fc).pt
theorem DW.and1 {k:Bool} (h:DT X a ρ k):DW X (.BoolOp .And [a] pos) ρ k:=fun H0 Fc=>yhd (h H0 Fc)
theorem DW.or1 {k:Bool} (h:DT X a ρ k):DW X (.BoolOp .Or [a] pos) ρ k:=fun H0 Fc=>pw_or1 (h H0 Fc)
theorem DW.andT {k:Bool} (h:DT X a ρ true) (h2:DW X (.BoolOp .And (b::es) pos) ρ k):DW X (.BoolOp .And (a::b::es) pos) ρ k:=fun H0 Fc=>PW.mono (yec (h H0 Fc) (h2 H0 Fc)) fun σ H Q hz=>xa hz fun F R q=>
 ⟨F,R,fun H1 F1 s1 R1=>iteT (⟨F1,R1,fun H2 F2 s2 R2=>q H2 F2 (s1.trans s2) R2⟩)⟩
theorem DW.andF {tb} (h:DT X a ρ false) (h2:PW X (.BoolOp .And (b::es) pos) tb):DW X (.BoolOp .And (a::b::es) pos) ρ false:=fun H0 Fc=>PW.mono (yec (h H0 Fc) h2) fun σ H Q hz=>xa hz fun F R q=>
 ⟨F,R,fun H1 F1 s1 R1=>iteF (q H1 F1 s1 R1)⟩
theorem DW.orF {k:Bool} (h:DT X a ρ false) (h2:DW X (.BoolOp .Or (b::es) pos) ρ k):DW X (.BoolOp .Or (a::b::es) pos) ρ k:=fun H0 Fc=>PW.mono (pw_or (h H0 Fc) (h2 H0 Fc)) fun σ H Q hz=>xa hz fun F R q=>
 ⟨F,R,fun H1 F1 s1 R1=>iteF (⟨F1,R1,fun H2 F2 s2 R2=>q H2 F2 (s1.trans s2) R2⟩)⟩
theorem DW.orT {tb} (h:DT X a ρ true) (h2:PW X (.BoolOp .Or (b::es) pos) tb):DW X (.BoolOp .Or (a::b::es) pos) ρ true:=fun H0 Fc=>PW.mono (pw_or (h H0 Fc) h2) fun σ H Q hz=>xa hz fun F R q=>
 ⟨F,R,fun H1 F1 s1 R1=>iteT (q H1 F1 s1 R1)⟩
theorem zqp:PW X e (fun _ _ _=>False):=fun _ _ _ _ _ _ _ h=>h.elim
theorem zqv:PE X e (fun _ _ _=>False):=fun _ _ _ _ _ _ h=>h.elim
theorem DE.not {k:Bool} (h:DF X a ρ (.bl k)):DE X (.UnaryOp .Not a pos) ρ (.val (.bl (!k))):=fun H0 Fc=>PE.mono (pe_not (h H0 Fc)) fun σ H Q hz=>xa hz fun F R q=>
 ⟨F,R,fun v H1 F1 s1 R1 q1=>⟨k,q1.bl,q _ H1 F1 s1 R1 RW.bl⟩⟩
theorem DE.one {op} (h:DE X a ρ w):DE X (.BoolOp op [a] pos) ρ w:=fun H0 Fc=>pe_one (h H0 Fc)
theorem DE.andT (h:DF X a ρ (.bl true)) (h2:DE X (.BoolOp .And (b::es) pos) ρ w):DE X (.BoolOp .And (a::b::es) pos) ρ w:=fun H0 Fc=>PE.mono (yeh (h H0 Fc) (h2 H0 Fc)) fun σ H Q hz=>xa hz fun F R q=>
 ⟨F,R,fun v H1 F1 s1 R1 q1=>⟨true,q1.bl,iteT (⟨F1,R1,fun v H2 F2 s2 R2 q2=>q v H2 F2 (s1.trans s2) R2 q2⟩)⟩⟩
theorem DE.andF (h:DF X a ρ (.bl false)):DE X (.BoolOp .And (a::b::es) pos) ρ (.val (.bl false)):=fun H0 Fc=>PE.mono (yeh (h H0 Fc) zqv) fun σ H Q hz=>xa hz fun F R q=>
 ⟨F,R,fun v H1 F1 s1 R1 q1=>⟨false,q1.bl,iteF (q _ H1 F1 s1 R1 RW.bl)⟩⟩
theorem DE.orF (h:DF X a ρ (.bl false)) (h2:DE X (.BoolOp .Or (b::es) pos) ρ w):DE X (.BoolOp .Or (a::b::es) pos) ρ w:=fun H0 Fc=>PE.mono (pe_or (h H0 Fc) (h2 H0 Fc)) fun σ H Q hz=>xa hz fun F R q=>
 ⟨F,R,fun v H1 F1 s1 R1 q1=>⟨false,q1.bl,iteF (⟨F1,R1,fun v H2 F2 s2 R2 q2=>q v H2 F2 (s1.trans s2) R2 q2⟩)⟩⟩
theorem DE.orT (h:DF X a ρ (.bl true)):DE X (.BoolOp .Or (a::b::es) pos) ρ (.val (.bl true)):=fun H0 Fc=>PE.mono (pe_or (h H0 Fc) zqv) fun σ H Q hz=>xa hz fun F R q=>
 ⟨F,R,fun v H1 F1 s1 R1 q1=>⟨true,q1.bl,iteT (q _ H1 F1 s1 R1 RW.bl)⟩⟩
def zcr (X:Cx) (op:CmpOp) (x y:D) (k:Bool):Prop:=∃ r,OpR X (compareOp op) r /\
 ∀ (H F:Hp) (v u:V) (Q:VK),Same F H->Den X.K F x v->Den X.K F y u->Q (.bl k) H->r v u H Q
theorem DE.cmp {op:CmpOp} {x y:D} {k:Bool} (hc:zcr X op x y k) (ha:DF X a ρ x) (hb:DF X b ρ y) (hm:behindInMarks op b=false):DE X (.Compare a [op] [b] pos) ρ (.val (.bl k)):=fun H0 Fc=>by
 refine xa hc fun r ho hr=>?_;clear hc
 exact PE.mono (yhl ho (ha H0 Fc) (hb H0 Fc) hm) (zdq fun H F σ v u Q R qv qu q=>hr H F v u Q R.sub qv qu (q _ H F (Same.refl _) R RW.bl))
theorem DT.cmp {op:CmpOp} {x y:D} {k:Bool} (hc:zcr X op x y k) (ha:DF X a ρ x) (hb:DF X b ρ y) (hm:behindInMarks op b=false):DT X (.Compare a [op] [b] pos) ρ k:=fun H0 Fc=>by
 refine xa hc fun r ho hr=>?_;clear hc
 refine PT.mono (yhg ho (ha H0 Fc) (hb H0 Fc) hm) fun σ H Q hz=>xa hz fun F R q=>⟨F,R,fun v H1 F1 s1 R1 q1=>⟨F1,R1,fun u H2 F2 s2 R2 q2=>?_⟩⟩
 exact hr H2 F2 v u _ R2.sub (q1.mono s2) q2 ⟨k,rfl,q H2 F2 (s1.trans s2) R2⟩
theorem cmpI {op:CmpOp} {g:Int->Int->Bool} {x y:Int} (ho:OpR X (compareOp op) (rI0 fun i j=>.bl (g i j))):zcr X op (.int x) (.int y) (g x y):=
 ⟨_,ho,fun H F v u Q s qv qu q=>⟨x,y,qv.int,qu.int,q⟩⟩
theorem cmp_lt {x y:Int}:zcr X .Lt (.int x) (.int y) (decide (x<y)):=cmpI op_lt
theorem cmp_le {x y:Int}:zcr X .LtE (.int x) (.int y) (decide (x<=y)):=cmpI op_le
theorem cmp_gt {x y:Int}:zcr X .Gt (.int x) (.int y) (decide (y<x)):=cmpI op_gt
theorem cmp_ge {x y:Int}:zcr X .GtE (.int x) (.int y) (decide (y<=x)):=cmpI op_ge
theorem yjv {x y:Int}:zcr X .Eq (.int x) (.int y) (decide (x=y)):=⟨_,op_eq,fun H F v u Q s qv qu q=>by
 have e1:=qv.int;have e2:=qu.int;subst e1;subst e2;exact⟨rfl,by rw [zle,Ga];exact q⟩⟩
theorem yjr {x y:Int}:zcr X .NotEq (.int x) (.int y) (!decide (x=y)):=⟨_,op_ne,fun H F v u Q s qv qu q=>by
 have e1:=qv.int;have e2:=qu.int;subst e1;subst e2;exact⟨rfl,by rw [zle,Ga];exact q⟩⟩
theorem yjw {x y:Bool}:zcr X .Eq (.bl x) (.bl y) (x == y):=⟨_,op_eq,fun H F v u Q s qv qu q=>by
 have e1:=qv.bl;have e2:=qu.bl;subst e1;subst e2;exact⟨rfl,by rw [zsb];exact q⟩⟩
theorem yjs {x y:Bool}:zcr X .NotEq (.bl x) (.bl y) (!(x == y)):=⟨_,op_ne,fun H F v u Q s qv qu q=>by
 have e1:=qv.bl;have e2:=qu.bl;subst e1;subst e2;exact⟨rfl,by rw [zsb];exact q⟩⟩
noncomputable def znr:D->Bool
 | .non=>true
 | _=>false
theorem znq {K:PySem.W.Frag} {F:Hp} {d:D} {v:V} (h:Den K F d v):decide (v=V.non)=znr d:=by
 cases d with
 | non=>rw [h.non];rfl
 | bl b=>rw [h.bl];rfl
 | int i=>rw [h.int];rfl
 | tup l=>refine xi h.tup fun a xs e _=>?_;rw [e];rfl
 | lst l=>refine xi h.lst fun a xs e _=>?_;rw [e];rfl
 | exc x=>refine xi h.exc fun a C e _=>?_;rw [e];rfl
theorem yjt {x:D}:zcr X .Is x .non (znr x):=⟨_,op_isN,fun H F v u Q s qv qu q=>⟨qu.non,by rw [znq qv];exact q⟩⟩
theorem ycs {x:D}:zcr X .IsNot x .non (!znr x):=⟨_,yhs,fun H F v u Q s qv qu q=>⟨qu.non,by rw [znq qv];exact q⟩⟩
def zgm (X:Cx) (f:Value) (ds:List D) (w:W):Prop:=∃ r,ziw X f r /\
 ∀ (H0 Fc H F:Hp) (σ:L2.St) (ρ:Rho) (vs:List V) (Q:VK),ER X.K H0 Fc F H σ ρ->DenL X.K F ds vs->(∀ v' H' F',Same F F'->ER X.K H0 Fc F' H' σ ρ->RW X.K H0 F' H' w v'->Q v' H')->r vs H Q
theorem DE.blt {x:Str} {id:String} {p:Pos} {ds:List D} (hc:zgm X (.builtin id) ds w) (hg:Gl X x) (hm:X.mg x=none) (hv:bootBuiltins x=some (.builtin id)) (hn:x ≠ "__name__") (hdb:(x == ("__debug__" : Str))=false) (ha:DA X (e::es) ρ ds) (hs:Bs e=true) (hss:es.all Bs=true) :
  DE X (.Call (.Name x p) (e::es) [] pos) ρ w:=fun H0 Fc=>by
 refine xa hc fun r hr hq=>?_;clear hc
 refine PE.mono (zqw hr hg hm hv (ha H0 Fc) hn hdb (Bx hs) (zcl hss)) fun σ H Q hz=>xa hz fun F R k=>⟨F,R,fun vs H1 F1 s1 R1 q1=>?_⟩
 exact hq H0 Fc H1 F1 σ ρ vs Q R1 q1 fun v' H' F' s' R' q'=>k v' H' F' (s1.trans s') R' q'
theorem DE.ty {x:Str} {id:String} {p:Pos} {ds:List D} (hc:zgm X (.type id) ds w) (hg:Gl X x) (hm:X.mg x=none) (hv:bootBuiltins x=some (.type id)) (hn:x ≠ "__name__") (hdb:(x == ("__debug__" : Str))=false) (ha:DA X (e::es) ρ ds) (hs:Bs e=true) (hss:es.all Bs=true) :
  DE X (.Call (.Name x p) (e::es) [] pos) ρ w:=fun H0 Fc=>by
 refine xa hc fun r hr hq=>?_;clear hc
 refine PE.mono (zvv hr hg hm hv (ha H0 Fc) hn hdb (Bx hs) (zcl hss)) fun σ H Q hz=>xa hz fun F R k=>⟨F,R,fun vs H1 F1 s1 R1 q1=>?_⟩
 exact hq H0 Fc H1 F1 σ ρ vs Q R1 q1 fun v' H' F' s' R' q'=>k v' H' F' (s1.trans s') R' q'
theorem DenL.one {K:PySem.W.Frag} {F:Hp} {d:D} {vs:List V} (h:DenL K F [d] vs):∃ v,vs=[v]/\Den K F d v:=by
 refine xc h.inv_cons fun v r e q z=>?_;rw [z.inv_nil] at e;exact⟨v,e,q⟩
theorem DenL.two {K:PySem.W.Frag} {F:Hp} {d d':D} {vs:List V} (h:DenL K F [d,d'] vs):∃ v v',vs=[v,v']/\Den K F d v/\Den K F d' v':=by
 refine xc h.inv_cons fun v r e q z=>?_;refine xa z.one fun v' e' q'=>?_;rw [e'] at e;exact⟨v,v',e,q,q'⟩
theorem ykf {i:Int}:zgm X (.builtin "abs") [.int i] (.val (.int (if i<0 then -i else i))):=⟨_,ycv,fun H0 Fc H F σ ρ vs Q R q k=>by
 refine xa q.one fun v e q=>?_;rw [q.int] at e;exact⟨i,e,k _ H F (Same.refl _) R RW.int⟩⟩
theorem yda {l:List D}:zgm X (.builtin "len") [.lst l] (.val (.int l.length)):=⟨_,zfy,fun H0 Fc H F σ ρ vs Q R q k=>by
 refine xa q.one fun v e q=>?_;refine xc q.lst fun p xs e1 sq r=>?_;rw [e1] at e;exact⟨p,xs,e,.inl (R.sub.seq sq),by rw [r.length];exact k _ H F (Same.refl _) R RW.int⟩⟩
theorem ycz {l:List D}:zgm X (.builtin "len") [.tup l] (.val (.int l.length)):=⟨_,zfy,fun H0 Fc H F σ ρ vs Q R q k=>by
 refine xa q.one fun v e q=>?_;refine xc q.tup fun p xs e1 sq r=>?_;rw [e1] at e;exact⟨p,xs,e,.inr (Same.tup R.sub sq),by rw [r.length];exact k _ H F (Same.refl _) R RW.int⟩⟩
end
end DL
namespace DL
open PySem L2 PyProof.Rows
mutual
noncomputable def lf:D->Bool
 | .non=>true
 | .bl _=>true
 | .int _=>true
 | .tup l=>lfL l
 | .lst _=>false
 | .exc _=>false
noncomputable def lfL:List D->Bool
 | []=>true
 | d::l=>lf d && lfL l
end
noncomputable def lfW:W->Bool
 | .val d=>lf d
 | .new l=>lfL l
mutual
theorem Den.shrink {K:PySem.W.Frag} {F F':Hp} (s:∀ a xs,SqT K F a xs->SqT K F' a xs):∀ (d:D) {v:V},lf d=true->Den K F d v->Den K F' d v
 | .non,_,_,h=>by simpa only [Den] using h
 | .bl _,_,_,h=>by simpa only [Den] using h
 | .int _,_,_,h=>by simpa only [Den] using h
 | .tup l,_,f,h=>by
  refine xc h.tup fun a xs e q r=>?_;subst e;exact Den.tup_mk (s _ _ q) (DenL.shrink s l (by simpa only [lf] using f) r)
 | .lst l,_,f,h=>by simp only [lf] at f;cases f
 | .exc l,_,f,h=>by simp only [lf] at f;cases f
theorem DenL.shrink {K:PySem.W.Frag} {F F':Hp} (s:∀ a xs,SqT K F a xs->SqT K F' a xs):∀ (l:List D) {xs:List V},lfL l=true->DenL K F l xs->DenL K F' l xs
 | [],_,_,h=>by simpa only [DenL] using h
 | d::l,_,f,h=>by
  simp only [lfL,Zm] at f;refine xc h.inv_cons fun v vs e q r=>?_;subst e;exact DenL.cons (Den.shrink s d f.1 q) (DenL.shrink s l f.2 r)
end
inductive B where
 | sh (d:D) | ow (l:List D)
noncomputable def B.d:B->D
 | .sh d=>d
 | .ow l=>.lst l
noncomputable def W.b:W->B
 | .val d=>.sh d
 | .new l=>.ow l
noncomputable abbrev RhoS:=List (Option B)
noncomputable def view (ρ:RhoS):Rho:=ρ.map (Option.map B.d)
noncomputable def frz (ρ:RhoS):RhoS:=ρ.map (Option.map fun b=>.sh b.d)
theorem zzq {ρ:RhoS} {i:Nat} {d:D} (h:(view ρ)[i]? = some (some d)):∃ b,ρ[i]? = some (some b)/\b.d=d:=by
 unfold view at h;rw [Zk] at h;cases q:ρ[i]? with
 | none=>rw [q] at h;cases h
 | some o=>
  rw [q] at h;cases o with
  | none=>cases h
  | some b=>exact⟨b,rfl,by simpa using h⟩
theorem zla {ρ:RhoS} {i:Nat} {b:B} (h:(frz ρ)[i]? = some (some b)):∃ c,ρ[i]? = some (some c)/\b=.sh c.d:=by
 unfold frz at h;rw [Zk] at h;cases q:ρ[i]? with
 | none=>rw [q] at h;cases h
 | some o=>
  rw [q] at h;cases o with
  | none=>cases h
  | some c=>exact⟨c,rfl,by simpa using h.symm⟩
structure SR (K:PySem.W.Frag) (H0 Fc F H:Hp) (σ:L2.St) (ρ:RhoS):Prop where
 sub:Same F H
 same:Same H0 H
 base:Same Fc F
 new:∀ a o,F a=some o->Fc a=some o\/H0 a=none
 env:∀ (i:Nat) d,ρ[i]? = some (some (.sh d))->∃ v,σ[i]? = some (some v)/\Den K F d v
 own:∀ (i:Nat) l,ρ[i]? = some (some (.ow l))->∃ a xs,σ[i]? = some (some (.ref a))/\F a=none/\H0 a=none/\H a=some (.lst xs)/\DenL K F l xs
 dis:∀ (i j:Nat) l m a,ρ[i]? = some (some (.ow l))->ρ[j]? = some (some (.ow m))->σ[i]? = some (some (.ref a))->σ[j]? = some (some (.ref a))->i=j
 len:σ.length=ρ.length
def Owned (σ:L2.St) (ρ:RhoS) (a:Addr):Prop:=∃ (i:Nat) (l:List D),ρ[i]? = some (some (.ow l))/\σ[i]? = some (some (.ref a))
section
variable {K:PySem.W.Frag} {H0 Fc F H:Hp} {σ:L2.St} {ρ:RhoS}
theorem SR.owned_none (S:SR K H0 Fc F H σ ρ) {a:Addr} (h:Owned σ ρ a):F a=none/\H0 a=none/\∃ xs,H a=some (.lst xs):=by
 refine xi h fun i l h1 h2=>?_;clear h
 refine xm (S.own i l h1) fun b xs e p q r _=>?_;rw [h2] at e;cases e;exact⟨p,q,xs,r⟩
open Classical in
noncomputable def borrow (F H:Hp) (σ:L2.St) (ρ:RhoS):Hp:=fun a=>if Owned σ ρ a then H a else F a
open Classical in
theorem SR.borrow (S:SR K H0 Fc F H σ ρ):Same F (borrow F H σ ρ)/\ER K H0 Fc (borrow F H σ ρ) H σ (view ρ):=by
 have s:Same F (DL.borrow F H σ ρ):=fun a o e=>by
  unfold DL.borrow;rw [if_neg (fun z=>by rw [(S.owned_none z).1] at e;cases e)];exact e
 refine⟨s,⟨fun a o e=>?_,S.same,S.base.trans s,fun a o e=>?_,fun i d e=>?_⟩⟩
 ·unfold DL.borrow at e;by_cases hz:Owned σ ρ a
  ·rw [if_pos hz] at e;exact e
  ·rw [if_neg hz] at e;exact S.sub a o e
 ·unfold DL.borrow at e;by_cases hz:Owned σ ρ a
  ·exact .inr (S.owned_none hz).2.1
  ·rw [if_neg hz] at e;exact S.new a o e
 ·refine xa (zzq e) fun b h1 h2=>?_;subst h2;cases b with
  | sh d=>
   refine xa (S.env i d h1) fun v p q=>?_;exact⟨v,p,q.mono s⟩
  | ow l=>
   refine xm (S.own i l h1) fun a xs p _ _ r q=>?_;refine⟨_,p,Den.lst_mk (SqL.of ?_) (q.mono s)⟩
   unfold DL.borrow;rw [if_pos ⟨i,l,h1,p⟩];exact r
open Classical in
theorem SR.back (S:SR K H0 Fc F H σ ρ) {F2 H2:Hp} {w:W} {v:V} (s:Same (DL.borrow F H σ ρ) F2) (R:ER K H0 Fc F2 H2 σ (view ρ)) (q:RW K H0 F2 H2 w v) (f:lfW w=true) :
  ∃ F3,Same F F3/\SR K H0 Fc F3 H2 σ ρ/\RW K H0 F3 H2 w v:=by
 have hown:∀ {a},Owned σ ρ a->∃ xs,F2 a=some (.lst xs):=fun {a} z=>by
  refine xE (S.owned_none z) fun _ _ xs r=>?_;exact⟨xs,s a _ (by unfold DL.borrow;rw [if_pos z];exact r)⟩
 have sF:Same F (fun a=>if Owned σ ρ a then none else F2 a):=fun a o e=>by
  have hz:¬ Owned σ ρ a:=fun z=>by rw [(S.owned_none z).1] at e;cases e
  show (if Owned σ ρ a then none else F2 a)=some o;rw [if_neg hz];exact s a o (S.borrow.1 a o e)
 have hsub:∀ a o,(if Owned σ ρ a then none else F2 a)=some o->F2 a=some o:=fun a o e=>by
  by_cases hz:Owned σ ρ a
  ·rw [if_pos hz] at e;cases e
  ·rw [if_neg hz] at e;exact e
 have tups:∀ a xs,SqT K F2 a xs->SqT K (fun a=>if Owned σ ρ a then none else F2 a) a xs:=fun a xs h=>by
  rcases h with h | h
  ·refine .inl ?_;have hz:¬ Owned σ ρ a:=fun z=>by
    refine xb (hown z) fun ys e=>?_;rcases h with h | ⟨o,h⟩
    ·rw [e] at h;cases h
    ·rw [e] at h;cases h
   rcases h with h | ⟨o,h⟩
   ·exact .inl (by show (if Owned σ ρ a then none else F2 a)=_;rw [if_neg hz];exact h)
   ·exact .inr ⟨o,by show (if Owned σ ρ a then none else F2 a)=_;rw [if_neg hz];exact h⟩
  ·exact .inr h
 refine⟨_,sF,⟨fun a o e=>R.sub a o (hsub a o e),R.same,S.base.trans sF,fun a o e=>R.new a o (hsub a o e),fun i d e=>?_,fun i l e=>?_,S.dis,S.len⟩,?_⟩
 ·refine xa (S.env i d e) fun v p q=>?_;exact⟨v,p,q.mono sF⟩
 ·refine xm (S.own i l e) fun a xs p p1 p2 p3 p4=>?_;have hz:Owned σ ρ a:=⟨i,l,e,p⟩;refine⟨a,xs,p,if_pos hz,p2,?_,p4.mono sF⟩
  exact R.sub _ _ (s a _ (by unfold DL.borrow;rw [if_pos hz];exact p3))
 ·cases w with
  | val d=>exact Den.shrink tups d f q
  | new l=>
   refine xm q fun a xs e p1 p2 p3 p4=>?_;clear q
   subst e;refine RW.n ?_ p2 p3 (DenL.shrink tups l f p4);by_cases hz:Owned σ ρ a
   ·exact if_pos hz
   ·exact (if_neg hz).trans p1
theorem SR.freeze (S:SR K H0 Fc F H σ ρ) {F2 H2:Hp} (s:Same (DL.borrow F H σ ρ) F2) (R:ER K H0 Fc F2 H2 σ (view ρ)):Same F F2/\SR K H0 Fc F2 H2 σ (frz ρ):=by
 refine⟨S.borrow.1.trans s,R.sub,R.same,R.base,R.new,fun i d e=>?_,fun i l e=>?_,fun i j l m a e=>?_,?_⟩
 ·refine xa (zla e) fun c h1 h2=>?_;cases h2;refine R.env i c.d ?_;unfold view;rw [Zk,h1];rfl
 ·refine xa (zla e) fun c h1 h2=>?_;cases h2
 ·refine xa (zla e) fun c h1 h2=>?_;cases h2
 ·rw [S.len];unfold frz;rw [Zd]
noncomputable def after (w:W) (ρ:RhoS):RhoS:=if lfW w=true then ρ else frz ρ
theorem SR.after (S:SR K H0 Fc F H σ ρ) {F2 H2:Hp} {w:W} {v:V} (s:Same (DL.borrow F H σ ρ) F2) (R:ER K H0 Fc F2 H2 σ (view ρ)) (q:RW K H0 F2 H2 w v) :
  ∃ F3,Same F F3/\SR K H0 Fc F3 H2 σ (DL.after w ρ)/\RW K H0 F3 H2 w v:=by
 unfold DL.after;by_cases f:lfW w=true
 ·rw [if_pos f];exact S.back s R q f
 ·rw [if_neg f];refine xg (S.freeze s R) fun a b=>?_;exact⟨F2,a,b,q⟩
theorem SR.bind (S:SR K H0 Fc F H σ ρ) {i:Nat} {w:W} {v:V} (q:RW K H0 F H w v) (hi:i<ρ.length) (hd:∀ l,w=.new l->∀ a,v=.ref a -> ¬ Owned σ ρ a):SR K H0 Fc F H (σ.set i (some v)) (ρ.set i (some w.b)):=by
 have hiσ:i<σ.length:=by rw [S.len];exact hi
 have gs:(σ.set i (some v))[i]? = some (some v):=by rw [Y4 hiσ]
 have gr:(ρ.set i (some w.b))[i]? = some (some w.b):=by rw [Y4 hi]
 have ns:∀ {j},j≠i->(σ.set i (some v))[j]? = σ[j]?:=fun h=>Ym (Wh h)
 have nr:∀ {j},j≠i->(ρ.set i (some w.b))[j]? = ρ[j]?:=fun h=>Ym (Wh h)
 refine⟨S.sub,S.same,S.base,S.new,fun j d e=>?_,fun j l e=>?_,fun j k l m a e1 e2 e3 e4=>?_,by rw [Wc,Wc];exact S.len⟩
 ·by_cases hj:j=i
  ·subst hj;rw [gr] at e;refine⟨v,gs,?_⟩
   cases w with
   | val d'=>cases e;exact q
   | new l=>cases e
  ·rw [nr hj] at e;rw [ns hj];exact S.env j d e
 ·by_cases hj:j=i
  ·subst hj;rw [gr] at e;cases w with
   | val d'=>cases e
   | new l'=>
    cases e;refine xm q fun a xs e1 p1 p2 p3 p4=>?_;clear q
    subst e1;exact⟨a,xs,gs,p1,p2,p3,p4⟩
  ·rw [nr hj] at e;rw [ns hj];exact S.own j l e
 ·by_cases hj:j=i
  ·by_cases hk:k=i
   ·rw [hj,hk]
   ·subst hj;rw [gr] at e1;rw [gs] at e3;rw [nr hk] at e2;rw [ns hk] at e4;cases w with
    | val d'=>cases e1
    | new l'=>cases e3;exact absurd ⟨k,m,e2,e4⟩ (hd l' rfl a rfl)
  ·by_cases hk:k=i
   ·subst hk;rw [gr] at e2;rw [gs] at e4;rw [nr hj] at e1;rw [ns hj] at e3;cases w with
    | val d'=>cases e2
    | new l'=>cases e4;exact absurd ⟨j,l,e1,e3⟩ (hd l' rfl a rfl)
   ·rw [nr hj] at e1;rw [ns hj] at e3;rw [nr hk] at e2;rw [ns hk] at e4;exact S.dis j k l m a e1 e2 e3 e4
theorem Owned.not_after (S:SR K H0 Fc F H σ ρ) {F2 H2:Hp} {w:W} {v:V} (s:Same (DL.borrow F H σ ρ) F2) (q:RW K H0 F2 H2 w v):∀ l,w=.new l->∀ a,v=.ref a -> ¬ Owned σ (DL.after w ρ) a:=fun l e a ev z=>by
 subst e;refine xc q fun b xs e1 p1 _=>?_;clear q
 rw [ev] at e1;cases e1;refine xi z fun i m h1 h2=>?_;clear z
 unfold DL.after at h1;by_cases f:lfW (.new l)=true
 ·rw [if_pos f] at h1;have hz:Owned σ ρ a:=⟨i,m,h1,h2⟩;refine xE (S.owned_none hz) fun _ _ ys r=>?_;have:=s a _ (by unfold DL.borrow;rw [if_pos hz];exact r)
  rw [p1] at this;cases this
 ·rw [if_neg f] at h1;refine xa (zla h1) fun c _ h=>?_;cases h
theorem SR.mut (S:SR K H0 Fc F H σ ρ) {i:Nat} {l m:List D} {a:Addr} {ys:List V} (h:ρ[i]? = some (some (.ow l))) (ha:σ[i]? = some (some (.ref a))) (q:DenL K F m ys):SR K H0 Fc F (upd H a (.lst ys)) σ (ρ.set i (some (.ow m))):=by
 have hz:Owned σ ρ a:=⟨i,l,h,ha⟩;refine xE (S.owned_none hz) fun hF h0 xs hH=>?_;have hi:i<ρ.length:=(Zl.mp h).1;have gr:(ρ.set i (some (.ow m)))[i]? = some (some (.ow m)):=by rw [Y4 hi]
 have nr:∀ {j},j≠i->(ρ.set i (some (.ow m)))[j]? = ρ[j]?:=fun h=>Ym (Wh h)
 have ow:∀ {j:Nat} {k:List D},(ρ.set i (some (B.ow m)))[j]? = some (some (B.ow k))->∃ k':List D,ρ[j]? = some (some (B.ow k')):=fun {j k} e=>by
  by_cases hj:j=i
  ·subst hj;exact⟨l,h⟩
  ·rw [nr hj] at e;exact⟨k,e⟩
 refine⟨fun b o e=>?_,fun b o e=>?_,S.base,S.new,fun j d e=>?_,fun j k e=>?_,fun j k p q' b e1 e2 e3 e4=>?_,by rw [Wc];exact S.len⟩
 ·rw [B3 (fun z=>by subst z;rw [hF] at e;cases e)];exact S.sub b o e
 ·rw [B3 (fun z=>by subst z;rw [h0] at e;cases e)];exact S.same b o e
 ·by_cases hj:j=i
  ·subst hj;rw [gr] at e;cases e
  ·rw [nr hj] at e;exact S.env j d e
 ·by_cases hj:j=i
  ·subst hj;rw [gr] at e;cases e;exact⟨a,ys,ha,hF,h0,Bz,q⟩
  ·rw [nr hj] at e;refine xm (S.own j k e) fun b zs p p1 p2 p3 p4=>?_;refine⟨b,zs,p,p1,p2,?_,p4⟩
   rw [B3 (fun z=>by subst z;exact hj (S.dis j i k l b e h p ha))];exact p3
 ·refine xb (ow e1) fun k1 f1=>?_;refine xb (ow e2) fun k2 f2=>?_;exact S.dis j k k1 k2 b f1 f2 e3 e4
end
inductive Out where
 | nx (ρ:RhoS) | rt (w:W)
structure RT (H0 Fc F H:Hp):Prop where
 sub:Same F H
 same:Same H0 H
 base:Same Fc F
 new:∀ a o,F a=some o->Fc a=some o\/H0 a=none
noncomputable def tS (K:PySem.W.Frag) (H0 Fc:Hp) (ρ:RhoS) (o:Out):TS:=fun D σ H=>∃ F,SR K H0 Fc F H σ ρ/\match o with
 | .nx ρ'=>∀ σ' H' F',Same F F'->SR K H0 Fc F' H' σ' ρ'->D.nx σ' H'
 | .rt w=>∀ v H' F',RT H0 Fc F' H'->RW K H0 F' H' w v->D.rt v H'
def DS (X:Cx) (s:Stmt) (ρ:RhoS) (o:Out):Prop:=∀ H0 Fc,PS X s (tS X.K H0 Fc ρ o)
def DSs (X:Cx) (s:List Stmt) (ρ:RhoS) (o:Out):Prop:=∀ H0 Fc,PSs X s (tS X.K H0 Fc ρ o)
section
variable {X:Cx} {st:Stmt} {rest:List Stmt} {ρ ρ':RhoS} {o:Out} {w:W} {e:Expr} {pos:Pos}
theorem DSs.nil:DSs X [] ρ (.nx ρ):=fun H0 Fc=>PSs.mono yhh fun D σ H hz=>xa hz fun F S k=>k σ H F (Same.refl _) S
theorem DSs.next (h1:DS X st ρ (.nx ρ')) (h2:DSs X rest ρ' o):DSs X (st::rest) ρ o:=fun H0 Fc=>PSs.mono (zqq (h1 H0 Fc) (h2 H0 Fc)) fun D σ H hz=>xa hz fun F S k=>
 ⟨F,S,fun σ' H' F' s' S'=>⟨F',S',by
  cases o with
  | nx ρ2=>exact fun σ2 H2 F2 s2 S2=>k σ2 H2 F2 (s'.trans s2) S2
  | rt w=>exact k⟩⟩
theorem DSs.ret (h1:DS X st ρ (.rt w)):DSs X (st::rest) ρ (.rt w):=fun H0 Fc=>PSs.mono (zqq (h1 H0 Fc) zht) fun D σ H hz=>xa hz fun F S k=>⟨F,S,k⟩
theorem DS.asg {i:Nat} {x:Str} {pos':Pos} (hN:X.N.Nodup) (hi:X.N[i]? = some x) (hx:Loc X.env.scope x) (hf:X.fn x=true\/X.env.scope.names.lookup x=some .local) (hs:swapsWith e (some (.Name x pos')) pos.line X.env=pure false) (hl:i<ρ.length)
  (he:DE X e (view ρ) w):DS X (.Assign [.Name x pos'] e pos) ρ (.nx ((after w ρ).set i (some w.b))):=fun H0 Fc=>PS.mono (ps_set hN hi hx (he H0 Fc) hs hf) fun D σ H hz=>xa hz fun F S k=>by
 refine xg S.borrow fun s0 R=>?_;refine⟨_,R,fun v H2 F2 s2 R2 q=>?_⟩
 refine xh (S.after s2 R2 q) fun F3 s3 S3 q3=>?_;refine k _ H2 F3 s3 (S3.bind q3 ?_ (Owned.not_after S s2 q));rw [<- S3.len,S.len];exact hl
theorem DS.ret (he:DE X e (view ρ) w):DS X (.Return (some e) pos) ρ (.rt w):=fun H0 Fc=>PS.mono (yed (he H0 Fc)) fun D σ H hz=>xa hz fun F S k=>by
 refine xg S.borrow fun s0 R=>?_;exact⟨_,R,fun v H2 F2 s2 R2 q=>k v H2 F2 ⟨R2.sub,R2.same,R2.base,R2.new⟩ q⟩
theorem DS.retOwn {i:Nat} {x:Str} {l:List D} {p:Pos} (hN:X.N[i]? = some x) (hv:Vis X.env.scope x) (hd:(x == ("__debug__" : Str))=false) (hcd:(x == ("__classdict__" : Str))=false) (hr:ρ[i]? = some (some (.ow l))) :
  DS X (.Return (some (.Name x p)) pos) ρ (.rt (.new l)):=fun H0 Fc=>PS.mono (yed (zfr hN hv hd hcd)) fun D σ H hz=>xa hz fun F S k=>by
 refine xm (S.own i l hr) fun a xs p p1 p2 p3 p4=>?_;exact⟨_,p,k _ H F ⟨S.sub,S.same,S.base,S.new⟩ (RW.n p1 p2 p3 p4)⟩
theorem SR.tested {K:PySem.W.Frag} {H0 Fc F H:Hp} {σ:L2.St} (S:SR K H0 Fc F H σ ρ) {F2 H2:Hp} (s:Same (DL.borrow F H σ ρ) F2) (R:ER K H0 Fc F2 H2 σ (view ρ)):∃ F3,Same F F3/\SR K H0 Fc F3 H2 σ ρ:=by
 refine xh (S.back (w:=.val .non) (v:=.non) s R (RW.v Den.non_mk) rfl) fun F3 a b _=>?_;exact⟨F3,a,b⟩
theorem tS.pre {K:PySem.W.Frag} {H0 Fc F F3 H H2:Hp} {σ:L2.St} {ρ2:RhoS} {D:Ends} (s:Same F F3) (S3:SR K H0 Fc F3 H2 σ ρ2)
  (k:match o with | .nx ρ'=>∀ σ' H' F',Same F F'->SR K H0 Fc F' H' σ' ρ'->D.nx σ' H' | .rt w=>∀ v H' F',RT H0 Fc F' H'->RW K H0 F' H' w v->D.rt v H'):tS K H0 Fc ρ2 o D σ H2:=⟨F3,S3,by
 cases o with
 | nx ρ'=>exact fun σ' H' F' s' S'=>k σ' H' F' (s.trans s') S'
 | rt w=>exact k⟩
theorem DS.ifT {c:Expr} {a b:List Stmt} (hc:DT X c (view ρ) true) (ha:DSs X a ρ o):DS X (.If c a b pos) ρ o:=fun H0 Fc=>PS.mono (ps_if (hc H0 Fc) (ha H0 Fc) zht) fun D σ H hz=>xa hz fun F S k=>by
 refine xg S.borrow fun s0 R=>?_;refine⟨_,R,fun H2 F2 s2 R2=>iteT ?_⟩
 refine xa (S.tested s2 R2) fun F3 s3 S3=>?_;exact tS.pre (H:=H) s3 S3 k
theorem DS.ifF {c:Expr} {a b:List Stmt} (hc:DT X c (view ρ) false) (hb:DSs X b ρ o):DS X (.If c a b pos) ρ o:=fun H0 Fc=>PS.mono (ps_if (hc H0 Fc) zht (hb H0 Fc)) fun D σ H hz=>xa hz fun F S k=>by
 refine xg S.borrow fun s0 R=>?_;refine⟨_,R,fun H2 F2 s2 R2=>iteF ?_⟩
 refine xa (S.tested s2 R2) fun F3 s3 S3=>?_;exact tS.pre (H:=H) s3 S3 k
noncomputable def zaa (c:RhoS->Option Bool) (b:RhoS->Option Out):Nat->RhoS->Option Out
 | 0,_=>none
 | n+1,ρ=>match c ρ with
  | none=>none
  | some false=>some (.nx ρ)
  | some true=>match b ρ with
   | none=>none
   | some (.rt w)=>some (.rt w)
   | some (.nx ρ')=>zaa c b n ρ'
theorem DS.while_ {c:Expr} {body:List Stmt} {fc:RhoS->Option Bool} {fb:RhoS->Option Out} {n:Nat} (hp:PassesOwn (model X.prog X.w) X.A X.env X.xe) (hc:∀ ρ k,fc ρ=some k->DT X c (view ρ) k) (hb:∀ ρ o,fb ρ=some o->DSs X body ρ o)
  (hw:zaa fc fb n ρ=some o):DS X (.While c body [] pos) ρ o:=fun H0 Fc=>by
 have pc:PT X c (fun σ H Q=>∃ ρ k,fc ρ=some k/\tDT X.K H0 Fc (view ρ) k σ H Q):=fun pins s σ H Q I hz=>xi hz fun ρ k h q=>hc ρ k h H0 Fc pins s σ H Q I q
 have pb:PSs X body (fun D σ H=>∃ ρ o,fb ρ=some o/\tS X.K H0 Fc ρ o D σ H):=fun pins s σ H D I hz=>xi hz fun ρ o h q=>hb ρ o h H0 Fc pins s σ H D I q
 refine PS.mono (yaw hp pc pb) fun D σ H hz=>xa hz fun F S k=>?_
 refine⟨fun m σ' H'=>∃ ρ' F',Same F F'/\SR X.K H0 Fc F' H' σ' ρ'/\zaa fc fb m ρ'=some o,⟨n,ρ,F,Same.refl _,S,hw⟩,?_⟩
 rintro m σ1 H1 ⟨ρ1,F1,s1,S1,h1⟩
 cases m with
 | zero=>cases h1
 | succ m=>
  unfold zaa at h1;cases e:fc ρ1 with
  | none=>rw [e] at h1;cases h1
  | some kk=>
   rw [e] at h1;refine xg S1.borrow fun s0 R=>?_;refine⟨ρ1,kk,e,_,R,fun H2 F2 s2 R2=>?_⟩
   refine xa (S1.tested s2 R2) fun F3 s3 S3=>?_;cases kk with
   | false=>
    refine iteF ?_;cases h1;exact k σ1 H2 F3 (s1.trans s3) S3
   | true=>
    refine iteT ?_;cases e2:fb ρ1 with
    | none=>simp only [e2] at h1;cases h1
    | some o2=>
     simp only [e2] at h1;cases o2 with
     | rt w=>
      cases h1;exact⟨fun _ _=>False,fun _ _ z=>z.elim,ρ1,_,e2,F3,S3,k⟩
     | nx ρ2=>
      refine⟨fun σ' H'=>∃ F',Same F F'/\SR X.K H0 Fc F' H' σ' ρ2,fun σ' H' hz=>xa hz fun F' s' S'=>⟨m,Q6 _,ρ2,F',s',S',h1⟩,ρ1,_,e2,F3,S3,?_⟩
      exact fun σ' H' F' s' S'=>⟨F',(s1.trans s3).trans s',S'⟩
end
end DL
namespace DL
open PySem L2 PyProof.Rows
section
variable {K:PySem.W.Frag} {H0 Fc F H:Hp} {σ:L2.St} {ρ:RhoS}
theorem SR.lay (S:SR K H0 Fc F H σ ρ) {a:Addr} (o:HO) (hn:H a=none):SR K H0 Fc (upd F a o) (upd H a o) σ ρ/\Same F (upd F a o):=by
 have hF:F a=none:=by
  cases q:F a with
  | none=>rfl
  | some u=>rw [S.sub a u q] at hn;cases hn
 have h0:H0 a=none:=S.same.free hn;have sF:=zcc (o:=o) hF;refine⟨⟨fun b u e=>?_,S.same.trans (zcc hn),S.base.trans sF,fun b u e=>?_,fun i d e=>?_,fun i l e=>?_,S.dis,S.len⟩,sF⟩
 ·by_cases hb:b=a
  ·subst hb;rw [Bz] at e |-;exact e
  ·rw [B3 hb] at e |-;exact S.sub b u e
 ·by_cases hb:b=a
  ·subst hb;exact .inr h0
  ·rw [B3 hb] at e;exact S.new b u e
 ·refine xa (S.env i d e) fun v h1 h2=>?_;exact⟨v,h1,h2.mono sF⟩
 ·refine xm (S.own i l e) fun b xs p p1 p2 p3 p4=>?_;have hb:b≠a:=fun z=>by subst z;rw [p3] at hn;cases hn
  exact⟨b,xs,p,by rw [B3 hb];exact p1,p2,by rw [B3 hb];exact p3,p4.mono sF⟩
theorem SR.frz1 (S:SR K H0 Fc F H σ ρ) {a:Addr} {xs:List V} (hF:F a=none) (h0:H0 a=none) (hH:H a=some (.lst xs)) (no:¬ Owned σ ρ a):SR K H0 Fc (upd F a (.lst xs)) H σ ρ/\Same F (upd F a (.lst xs)):=by
 have sF:=zcc (o:=.lst xs) hF;refine⟨⟨fun b u e=>?_,S.same,S.base.trans sF,fun b u e=>?_,fun i d e=>?_,fun i l e=>?_,S.dis,S.len⟩,sF⟩
 ·by_cases hb:b=a
  ·subst hb;rw [Bz] at e;cases e;exact hH
  ·rw [B3 hb] at e;exact S.sub b u e
 ·by_cases hb:b=a
  ·subst hb;exact .inr h0
  ·rw [B3 hb] at e;exact S.new b u e
 ·refine xa (S.env i d e) fun v h1 h2=>?_;exact⟨v,h1,h2.mono sF⟩
 ·refine xm (S.own i l e) fun b ys p p1 p2 p3 p4=>?_;have hb:b≠a:=fun z=>by subst z;exact no ⟨i,l,e,p⟩
  exact⟨b,ys,p,by rw [B3 hb];exact p1,p2,p3,p4.mono sF⟩
theorem SR.afterF (S:SR K H0 Fc F H σ ρ) {F2 H2:Hp} {w:W} {v:V} (s:Same (DL.borrow F H σ ρ) F2) (R:ER K H0 Fc F2 H2 σ (view ρ)) (q:RW K H0 F2 H2 w v) :
  ∃ F3,Same F F3/\SR K H0 Fc F3 H2 σ (DL.after w ρ)/\Den K F3 w.d v:=by
 have no:=Owned.not_after S s q;refine xh (S.after s R q) fun F3 s3 S3 q3=>?_;cases w with
 | val d=>exact⟨F3,s3,S3,q3⟩
 | new l=>
  refine xm q3 fun a xs e p1 p2 p3 p4=>?_;clear q3
  subst e;refine xg (S3.frz1 p1 p2 p3 (no l rfl a rfl)) fun S4 s4=>?_;exact⟨_,s3.trans s4,S4,Den.lst_mk (SqL.of Bz) (p4.mono s4)⟩
end
theorem PG.mono {X:Cx} {tg:Expr} {t t':TG} (h:PG X tg t) (k:∀ v σ H Q,t' v σ H Q->t v σ H Q):PG X tg t':=fun pins s σ H v u Q I r q=>h pins s σ H v u Q I r (k v σ H Q q)
theorem PGs.mono {X:Cx} {tg:List Expr} {t t':TGs} (h:PGs X tg t) (k:∀ v σ H Q,t' v σ H Q->t v σ H Q):PGs X tg t':=fun pins s σ H v u Q I r q=>h pins s σ H v u Q I r (k v σ H Q q)
theorem PI.mono {X:Cx} {tg it:Expr} {t t':TI} (h:PI X tg it t) (k:∀ σ H R,t' σ H R->t σ H R):PI X tg it t':=fun pins s σ H R I q=>h pins s σ H R I (k σ H R q)
def DG (X:Cx) (tg:Expr) (d:D) (ρ ρ':RhoS):Prop:=∀ H0 Fc,PG X tg (fun v σ H Q=>∃ F,SR X.K H0 Fc F H σ ρ/\Den X.K F d v/\∀ σ',SR X.K H0 Fc F H σ' ρ'->Q σ' H)
def DGs (X:Cx) (tg:List Expr) (ds:List D) (ρ ρ':RhoS):Prop:=∀ H0 Fc,PGs X tg (fun vs σ H Q=>∃ F,SR X.K H0 Fc F H σ ρ/\DenL X.K F ds vs/\∀ σ',SR X.K H0 Fc F H σ' ρ'->Q σ' H)
section
variable {X:Cx} {st:Stmt} {rest:List Stmt} {ρ ρ' ρ2:RhoS} {o:Out} {w:W} {e t:Expr} {ts es:List Expr} {pos:Pos} {d:D} {ds:List D}
theorem SR.bindS {K:PySem.W.Frag} {H0 Fc F H:Hp} {σ:L2.St} (S:SR K H0 Fc F H σ ρ) {i:Nat} {v:V} (q:Den K F d v) (hi:i<ρ.length):SR K H0 Fc F H (σ.set i (some v)) (ρ.set i (some (.sh d))):=
 S.bind (w:=.val d) (RW.v q) hi fun l e=>by cases e
theorem DG.name {i:Nat} {x:Str} (hN:X.N.Nodup) (hi:X.N[i]? = some x) (hx:Loc X.env.scope x) (hf:X.fn x=true\/X.env.scope.names.lookup x=some .local) (hl:i<ρ.length):DG X (.Name x pos) d ρ (ρ.set i (some (.sh d))):=fun H0 Fc=>
 PG.mono (zvu hN hi hx hf) fun v σ H Q hz=>xh hz fun F S q k=>k _ (S.bindS q hl)
theorem DGs.nil:DGs X [] [] ρ ρ:=fun H0 Fc=>PGs.mono zvt fun vs σ H Q hz=>xh hz fun F S q k=>⟨q.inv_nil,k σ S⟩
theorem zba {env:Env} (h:Bs t=true):assignEach (t::ts) env=(false,assign t env)::assignEach ts env:=by
 cases t <;> first | rfl | (cases h;done)
theorem zaf {env:Env}:∀ {ts:List Expr},ts.all Bs=true->(assignEach ts env).length=ts.length/\(assignEach ts env).findIdx? (·.1)=none
 | [],_=>⟨rfl,rfl⟩
 | t::ts,h=>by
  rw [W7,Zm] at h;refine xg (zaf (env:=env) h.2) fun a b=>?_;rw [zba h.1];refine⟨by rw [Zj,a,Zj],?_⟩
  rw [List.findIdx?_cons,b];rfl
theorem DGs.cons (h1:DG X t d ρ ρ') (h2:DGs X ts ds ρ' ρ2) (hs:Bs t=true):DGs X (t::ts) (d::ds) ρ ρ2:=fun H0 Fc=>
 PGs.mono (zqu (h1 H0 Fc) (h2 H0 Fc) (by rw [zba hs];rfl)) fun vs σ H Q hz=>xh hz fun F S q k=>by
  refine xc q.inv_cons fun v r e q1 q2=>?_;exact⟨v,r,e,F,S,q1,fun σ' S'=>⟨F,S',q2,k⟩⟩
theorem DG.tup {k} (hc:X.calm=true) (h:DGs X ts ds ρ ρ') (hs:ts.all Bs=true) (hl:ds.length=ts.length):DG X (.Tuple ts k pos) (.tup ds) ρ ρ':=fun H0 Fc=>
 PG.mono (yef (n:=ts.length) hc (h H0 Fc) (zaf hs).1 (zaf hs).2) fun v σ H Q hz=>xh hz fun F S q k=>by
  refine xc q.tup fun a xs e sq r=>?_;exact⟨a,xs,e,Same.tup S.sub sq,by rw [r.length];exact hl,F,S,r,k⟩
theorem DS.asgT (he:DE X e (view ρ) w) (hg:DG X t w.d (after w ρ) ρ') (hs:swapsWithSole [t] e pos.line X.env=pure false) (hw:swappedStores [t] e X.env=pure none) (hst:Bs t=true):DS X (.Assign [t] e pos) ρ (.nx ρ'):=fun H0 Fc=>
 PS.mono (yee (he H0 Fc) (hg H0 Fc) hs hw (by rw [zba hst];rfl)) fun D σ H hz=>xa hz fun F S k=>by
  refine xg S.borrow fun s0 R=>?_;refine⟨_,R,fun v H2 F2 s2 R2 q=>?_⟩
  refine xh (S.afterF s2 R2 q) fun F3 s3 S3 q3=>?_;exact⟨F3,S3,q3,fun σ' S'=>k σ' H2 F3 s3 S'⟩
theorem yim {K:PySem.W.Frag} {H0 Fc F H:Hp} {σ:L2.St} (S:SR K H0 Fc F H σ ρ) {F2 H2:Hp} {vs:List V} (s:Same (DL.borrow F H σ ρ) F2) (R:ER K H0 Fc F2 H2 σ (view ρ)) (q:DenL K F2 ds vs) (f:lfL ds=true) :
  ∃ F3,Same F F3/\SR K H0 Fc F3 H2 σ ρ/\DenL K F3 ds vs:=by
 induction ds generalizing vs with
 | nil=>
  refine xa (S.tested s R) fun F3 a b=>?_;rw [q.inv_nil];exact⟨F3,a,b,DenL.nil⟩
 | cons d ds ih=>
  classical
  have key:∀ (d:D) (v:V),lf d=true->Den K F2 d v->Den K (fun a=>if Owned σ ρ a then none else F2 a) d v:=fun d v f q=>by
   have tups:∀ a xs,SqT K F2 a xs->SqT K (fun a=>if Owned σ ρ a then none else F2 a) a xs:=fun a xs h=>by
    rcases h with h | h
    ·refine .inl ?_;have hz:¬ Owned σ ρ a:=fun z=>by
      refine xE (S.owned_none z) fun _ _ ys r=>?_;have e:=s a _ (by unfold DL.borrow;rw [if_pos z];exact r);rcases h with h | ⟨o,h⟩
      ·rw [e] at h;cases h
      ·rw [e] at h;cases h
     rcases h with h | ⟨o,h⟩
     ·exact .inl (by show (if Owned σ ρ a then none else F2 a)=_;rw [if_neg hz];exact h)
     ·exact .inr ⟨o,by show (if Owned σ ρ a then none else F2 a)=_;rw [if_neg hz];exact h⟩
    ·exact .inr h
   exact Den.shrink tups d f q
  have keyL:∀ (l:List D) (xs:List V),lfL l=true->DenL K F2 l xs->DenL K (fun a=>if Owned σ ρ a then none else F2 a) l xs:=fun l=>by
   induction l with
   | nil=>intro xs _ q;rw [q.inv_nil];exact DenL.nil
   | cons d l ih2=>
    intro xs f q;simp only [lfL,Zm] at f;refine xc q.inv_cons fun v vs e q1 q2=>?_;subst e;exact DenL.cons (key d v f.1 q1) (ih2 vs f.2 q2)
  have sF:Same F (fun a=>if Owned σ ρ a then none else F2 a):=fun a o e=>by
   have hz:¬ Owned σ ρ a:=fun z=>by rw [(S.owned_none z).1] at e;cases e
   show (if Owned σ ρ a then none else F2 a)=some o;rw [if_neg hz];exact s a o (S.borrow.1 a o e)
  have hsub:∀ a o,(if Owned σ ρ a then none else F2 a)=some o->F2 a=some o:=fun a o e=>by
   by_cases hz:Owned σ ρ a
   ·rw [if_pos hz] at e;cases e
   ·rw [if_neg hz] at e;exact e
  refine⟨_,sF,⟨fun a o e=>R.sub a o (hsub a o e),R.same,S.base.trans sF,fun a o e=>R.new a o (hsub a o e),fun i d e=>?_,fun i l e=>?_,S.dis,S.len⟩,keyL _ _ f q⟩
  ·refine xa (S.env i d e) fun v p q=>?_;exact⟨v,p,q.mono sF⟩
  ·refine xm (S.own i l e) fun a xs p p1 p2 p3 p4=>?_;have hz:Owned σ ρ a:=⟨i,l,e,p⟩;refine⟨a,xs,p,if_pos hz,p2,?_,p4.mono sF⟩
   exact R.sub _ _ (s a _ (by unfold DL.borrow;rw [if_pos hz];exact p3))
theorem DS.par {i j:Nat} {x y:Str} {a b:Expr} {px py pt:Pos} {kt k2 pt2} {d1 d2:D} (hc:X.calm=true) (hN:X.N.Nodup) (hi:X.N[i]? = some x) (hj:X.N[j]? = some y) (hij:i≠j)
  (hx:X.env.scope.names.lookup x=some .local) (hy:X.env.scope.names.lookup y=some .local) (ha:DA X [a,b] (view ρ) [d1,d2]) (hil:i<ρ.length) (hjl:j<ρ.length) (f1:lf d1=true) (f2:lf d2=true)
  (hw:swappedStores [.Tuple [.Name x px,.Name y py] kt pt] (.Tuple [a,b] k2 pt2) X.env=pure (some [x,y])) :
  DS X (.Assign [.Tuple [.Name x px,.Name y py] kt pt] (.Tuple [a,b] k2 pt2) pos) ρ (.nx ((ρ.set i (some (.sh d1))).set j (some (.sh d2)))):=fun H0 Fc=>
 PS.mono (ps_par hc hN hi hj hij hx hy (ha H0 Fc) hw (by rfl)) fun D σ H hz=>xa hz fun F S k=>by
  refine xg S.borrow fun s0 R=>?_;refine⟨_,R,fun vs H2 F2 s2 R2 q=>?_⟩
  refine xh (yim S s2 R2 q (by simp [lfL,f1,f2])) fun F3 s3 S3 q3=>?_;refine xc q3.two fun v u e q1 q2=>?_;refine⟨v,u,e,k _ H2 F3 s3 ((S3.bindS q1 hil).bindS q2 (by rw [Wc];exact hjl))⟩
def Yields (K:PySem.W.Frag) (F H:Hp) (d:D) (x:V) (H':Hp):Prop:=(H'=H/\Den K F d x)\/∃ p xs ds,H p=none/\H'=upd H p (.tup xs)/\x=.ref p/\d=.tup ds/\DenL K F ds xs
def Walks (K:PySem.W.Frag) (F:Hp) (J:It) (items:List D):Prop:=∀ i H,Same F H->(∀ d,items[i]? = some d->J.go i H/\∀ x H',J.yld i H x H'->Yields K F H d x H')/\(items.length<=i->J.stop i H)
def DI (X:Cx) (tg iter:Expr) (ρ:RhoS) (items:List D) (ρ':RhoS):Prop:=∀ H0 Fc,PI X tg iter (fun σ H R=>∃ F,SR X.K H0 Fc F H σ ρ/\∀ J H' F',Same F F'->SR X.K H0 Fc F' H' σ ρ'->Walks X.K F' J items->R J H')
noncomputable def forN (bt:D->RhoS->Option RhoS) (b:RhoS->Option Out):List D->RhoS->Option Out
 | [],ρ=>some (.nx ρ)
 | d::l,ρ=>match bt d ρ with
  | none=>none
  | some ρ1=>match b ρ1 with
   | none=>none
   | some (.rt w)=>some (.rt w)
   | some (.nx ρ2)=>forN bt b l ρ2
theorem DS.for_ {tg iter:Expr} {body:List Stmt} {bt:D->RhoS->Option RhoS} {fb:RhoS->Option Out} {items:List D} (hp:PassesOwn (model X.prog X.w) X.A X.env X.xe) (hc:X.calm=true) (hi:DI X tg iter ρ items ρ')
  (hg:∀ d ρ ρ',bt d ρ=some ρ'->DG X tg d ρ ρ') (hb:∀ ρ o,fb ρ=some o->DSs X body ρ o) (hw:forN bt fb items ρ'=some o) (hs:∀ x,foldedSetIterable iter X.env x=pure x):DS X (.For tg iter body [] pos) ρ o:=fun H0 Fc=>by
 have pg:PG X tg (fun v σ H Q=>∃ d ρ ρ',bt d ρ=some ρ'/\∃ F,SR X.K H0 Fc F H σ ρ/\Den X.K F d v/\∀ σ',SR X.K H0 Fc F H σ' ρ'->Q σ' H):=fun pins s σ H v u Q I r hz=>xn hz fun d ρ ρ' h q=>hg d ρ ρ' h H0 Fc pins s σ H v u Q I r q
 have pb:PSs X body (fun D σ H=>∃ ρ o,fb ρ=some o/\tS X.K H0 Fc ρ o D σ H):=fun pins s σ H D I hz=>xi hz fun ρ o h q=>hb ρ o h H0 Fc pins s σ H D I q
 refine PS.mono (ps_for hp hc (hi H0 Fc) pg pb hs) fun D σ H hz=>xa hz fun F S k=>⟨F,S,fun J H1 F1 s1 S1 wk=>?_⟩
 refine⟨fun i m σ' H'=>m=items.length-i/\i<=items.length/\∃ ρ2 F2,Same F1 F2/\SR X.K H0 Fc F2 H' σ' ρ2/\forN bt fb (items.drop i) ρ2=some o,⟨_,rfl,Ya _,ρ',F1,Same.refl _,S1,hw⟩,?_⟩
 rintro i m σ2 H2 ⟨rfl,hil,ρ2,F2,s2,S2,h2⟩
 have wk':=wk i H2 (s2.trans S2.sub);by_cases hlt:i<items.length
 ·have hd:items[i]? = some items[i]:=Ze hlt;rw [Wp hlt] at h2;refine xg (wk'.1 _ hd) fun go yl=>?_;unfold forN at h2;cases e1:bt items[i] ρ2 with
  | none=>rw [e1] at h2;cases h2
  | some ρ3=>
   simp only [e1] at h2;cases e2:fb ρ3 with
   | none=>simp only [e2] at h2;cases h2
   | some o2=>
    simp only [e2] at h2;have item:∀ x H',J.yld i H2 x H'->∃ F3,Same F2 F3/\SR X.K H0 Fc F3 H' σ2 ρ2/\Den X.K F3 items[i] x:=fun x H' y=>by
     rcases yl x H' y with⟨e,q⟩ | ⟨p,xs,ds,hp,e,ex,ed,q⟩
     ·subst e;exact⟨F2,Same.refl _,S2,q.mono s2⟩
     ·subst e ex;refine xg (S2.lay (.tup xs) hp) fun S3 s3=>?_;refine⟨_,s3,S3,?_⟩
      rw [ed];exact Den.tup_mk (SqT.of Bz) ((q.mono s2).mono s3)
    cases o2 with
    | rt w=>
     cases h2;refine .inr ⟨go,fun _ _=>False,fun _ _ z=>z.elim,fun x H' y=>?_⟩;refine xh (item x H' y) fun F3 s3 S3 q3=>?_;exact⟨_,ρ2,ρ3,e1,F3,S3,q3,fun σ' S'=>⟨ρ3,_,e2,F3,S',k⟩⟩
    | nx ρ4=>
     refine .inr ⟨go,fun σ' H'=>∃ F',Same F1 F'/\SR X.K H0 Fc F' H' σ' ρ4,fun σ' H' hz=>xa hz fun F' s' S'=>⟨items.length-(i+1),by omega,rfl,hlt,ρ4,F',s',S',h2⟩,fun x H' y=>?_⟩;refine xh (item x H' y) fun F3 s3 S3 q3=>?_;exact⟨_,ρ2,ρ3,e1,F3,S3,q3,fun σ' S'=>⟨ρ3,_,e2,F3,S',fun σ5 H5 F5 s5 S5=>⟨F5,(s2.trans s3).trans s5,S5⟩⟩⟩
 ·have e:i=items.length:=by omega
  subst e;rw [Bl] at h2;cases h2;refine .inl ⟨wk'.2 (Zh _),?_⟩;exact k σ2 H2 F2 (s1.trans s2) S2
theorem DI.list {tg:Expr} {l:List D} (he:DE X e (view ρ) w) (hl:w.d=.lst l):DI X tg e ρ l (after w ρ):=fun H0 Fc=>PI.mono (zpa (he H0 Fc)) fun σ H R hz=>xa hz fun F S k=>by
 refine xg S.borrow fun s0 Re=>?_;refine⟨_,Re,fun v H2 F2 s2 R2 q=>?_⟩
 refine xh (S.afterF s2 R2 q) fun F3 s3 S3 q3=>?_;rw [hl] at q3;refine xc q3.lst fun a xs e1 sq r=>?_;refine⟨a,e1,⟨xs,S3.sub.seq sq⟩,k _ H2 F3 s3 S3 fun i H' sH=>⟨fun d hd=>?_,fun hle=>⟨xs,sH.seq sq,by rw [r.length];exact hle⟩⟩⟩
 refine xa (r.get hd) fun y h1 h2=>?_;refine⟨⟨xs,y,sH.seq sq,h1⟩,fun x H'' hz=>xg hz fun ey yy=>?_⟩
 have:=yy xs (sH.seq sq)
 rw [h1] at this;cases this;exact .inl ⟨ey,h2⟩
theorem DI.tup {tg:Expr} {l:List D} (he:DE X e (view ρ) w) (hl:w.d=.tup l):DI X tg e ρ l (after w ρ):=fun H0 Fc=>PI.mono (zvs (he H0 Fc)) fun σ H R hz=>xa hz fun F S k=>by
 refine xg S.borrow fun s0 Re=>?_;refine⟨_,Re,fun v H2 F2 s2 R2 q=>?_⟩
 refine xh (S.afterF s2 R2 q) fun F3 s3 S3 q3=>?_;rw [hl] at q3;refine xc q3.tup fun a xs e1 sq r=>?_;refine⟨a,e1,⟨xs,Same.tup S3.sub sq⟩,k _ H2 F3 s3 S3 fun i H' sH=>⟨fun d hd=>?_,fun hle=>⟨xs,Same.tup sH sq,by rw [r.length];exact hle⟩⟩⟩
 refine xa (r.get hd) fun y h1 h2=>?_;refine⟨⟨xs,y,Same.tup sH sq,h1⟩,fun x H'' hz=>xg hz fun ey yy=>?_⟩
 have:=yy xs (Same.tup sH sq)
 rw [h1] at this;cases this;exact .inl ⟨ey,h2⟩
noncomputable def zag (lo:Int) (n:Nat):List D:=(List.range n).map fun (i:Nat)=>D.int (lo+(i:Int))
theorem zcd {K:PySem.W.Frag} {F:Hp} {lo:Int} {n:Nat}:Walks K F (Itr lo n) (zag lo n):=fun i H sH=>by
 unfold zag;refine⟨fun d hd=>?_,fun hle=>?_⟩
 ·rw [Zk] at hd;by_cases hlt:i<n
  ·rw [List.getElem?_range hlt] at hd;cases hd;exact⟨hlt,fun x H' hz=>xg hz fun e1 e2=>.inl ⟨e1,by rw [e2];exact Den.int_mk⟩⟩
  ·rw [Wr (by rw [Kh];omega)] at hd;cases hd
 ·rw [Zd,Kh] at hle;exact hle
theorem DI.range1 {tg a:Expr} {p:Pos} {n:Int} (hg:Gl X "range") (hm:X.mg "range" = none) (ha:DA X [a] (view ρ) [.int n]) (hs:Bs a=true) (h1 : -(2^62)<=n) (h2:n<2^62):DI X tg (.Call (.Name "range" p) [a] [] pos) ρ (zag 0 n.toNat) ρ:=fun H0 Fc=>
 PI.mono (znb hg hm (ha H0 Fc) (Bx hs)) fun σ H R hz=>xa hz fun F S k=>by
  refine xg S.borrow fun s0 Re=>?_;refine⟨_,Re,fun vs H2 F2 s2 R2 q=>?_⟩
  refine xa (S.tested s2 R2) fun F3 s3 S3=>?_;refine xa q.one fun v e q=>?_;rw [q.int] at e;exact⟨n,e,h1,h2,k _ H2 F3 s3 S3 zcd⟩
theorem DI.range2 {tg a b:Expr} {p:Pos} {m n:Int} (hg:Gl X "range") (hm:X.mg "range" = none) (ha:DA X [a,b] (view ρ) [.int m,.int n]) (hs:Bs a=true) (hs2:Bs b=true) (h : -(2^62)<=m/\m<2^62 /\ -(2^62)<=n/\n<2^62) :
  DI X tg (.Call (.Name "range" p) [a,b] [] pos) ρ (zag m (n-m).toNat) ρ:=fun H0 Fc=>
 PI.mono (zna hg hm (ha H0 Fc) (by rw [Bx hs,Bx hs2];rfl) (by rw [Bx hs2];rfl)) fun σ H R hz=>xa hz fun F S k=>by
  refine xg S.borrow fun s0 Re=>?_;refine⟨_,Re,fun vs H2 F2 s2 R2 q=>?_⟩
  refine xa (S.tested s2 R2) fun F3 s3 S3=>?_;refine xc q.two fun v u e q1 q2=>?_;rw [q1.int,q2.int] at e;exact⟨m,n,e,h,k _ H2 F3 s3 S3 zcd⟩
end
end DL
namespace DL
open PySem L2 PyProof.Rows
section
variable {X:Cx} {elts:List Expr} {x1:Nat} {tp:Pos}
end
end DL
namespace DL
open PySem L2 PyProof.Rows
section
variable {prog:Program} {w:World} {A:Around} {E:Value->Shared->Prop} {h:Heap} {g:Array GenState} {d:Drawn} {t:Nat} {os:OsState} {a C:Addr} {o:Obj} {vs:Array Value} {K:PySem.W.Frag}
structure XCls (K:PySem.W.Frag) (C:Addr):Prop where
 cls:PySem.W.isClsIn K C=true
 typ:PySem.W.typeIn K (.ref C)=some (.type "type")
 ga:PySem.W.findIn K (.ref C) "__getattribute__" = some (some (.builtin "BaseException.__getattribute__"))
 noga:PySem.W.findIn K (.ref C) "__getattr__" = some none
 at_:PySem.W.findIn K (.ref C) "__class__" = some (some (.builtin "object.__class__"))
 bexc:PySem.W.subIn K (.ref C) (.type "BaseException")=some true
 obj:PySem.W.subIn K (.ref C) (.type "object")=some true
end
end DL
namespace DL
open PySem L2 PyProof.Rows
section
variable {P:Program} {w:World} {H H':Hp} {h h':Heap} {a:Addr} {o:HO}
theorem ObjOk.ex (x:ObjOk P w H h a o):∃ u,h.get? a=some u:=by
 cases o with
 | lst xs=>refine xz x fun _ _ _ _ e=>?_;clear x;exact⟨_,e⟩
 | tup xs=>obtain⟨_,_,_,o,e,_⟩:=x;exact⟨_,e⟩
 | dK kvs=>obtain⟨_,_,_,_,o,_,_,e,_⟩:=x;exact⟨_,e⟩
 | dT kvs=>obtain⟨_,_,_,_,o,_,_,e,_⟩:=x;exact⟨_,e⟩
 | set S n=>refine xB x fun o _ _ _ e _=>?_;clear x;exact⟨_,e⟩
 | ins C dx fs=>refine xx x fun _ _ _ e _=>?_;clear x;exact⟨_,e⟩
 | own y=>refine xb x fun _ e=>?_;clear x;exact⟨_,e⟩
 | xd fs=>obtain⟨_,⟨_,_,_,e,_⟩,_⟩:=x;exact⟨_,e⟩
 | rng lo hi=>refine xq x fun _ _ _ e=>?_;clear x;exact⟨_,e⟩
 | frz ob u=>refine xg x fun e _=>?_;clear x;exact⟨_,e⟩
 | tbl ps=>exact⟨_,(show h.get? a=some _ from x)⟩
 | met f y=>exact⟨_,(show h.get? a=some _ from x)⟩
 | ext φ=>obtain⟨_,⟨_,e⟩,_⟩:=x;exact⟨_,e⟩
end
section
variable {fs:List Addr} {H H':Hp} {h0 h h1 B h':Heap}
end
noncomputable def CX1 (P:Program) (w:World):CXT:=fun outer H s E e s'=>∃ (ea C:Addr) (a0:Value) (B:Heap) (H':Hp),e=.ref ea/\s'.os=s.os/\AllBare s'.gens/\Un (frs outer) [] H H' s.heap s'.heap/\HOk P w H' s'.heap /\
 Heap.FlyingW B outer ea (.ref C) a0 s'.heap/\(∀ b o,s.heap.get? b=some o->b∉frs outer->∃ o',B.get? b=some o')/\(∀ b u,H' b=some u->∃ o',B.get? b=some o')/\E (.ref C) none H'
section
variable {X:Cx} {pins:List (Addr×Obj)} {σ:L2.St} {H:Hp} {s:Shared} {E:XK} {E':Value->Shared->Prop}
end
end DL
namespace DL
open PySem L2 PyProof.Rows
section
variable {X:Cx} {pins:List (Addr×Obj)} {σ:L2.St} {H:Hp} {s:Shared} {E:XK} {E':Value->Shared->Prop}
end
end DL
namespace DL
open PySem L2 PyProof.Rows
noncomputable abbrev zhc:List Str:=["FitError", "NoNumber", "NoShape", "NoSize"]
noncomputable def subX (x y:Str):Bool:=decide (x=y) || decide (y=("FitError" : Str)) || decide (y=("ValueError" : Str))
structure XFacts (K:PySem.W.Frag) (mg:Str->Option Value):Prop where
 ve:mg "ValueError" = none
 cl:∀ y∈zhc,∃ C,PySem.W.nsIn K mainGlobals y=some (some (.ref C))/\mg y=some (.ref C)/\XCls K C
 sub:∀ x∈zhc,∀ y∈zhc,∀ C C',PySem.W.nsIn K mainGlobals x=some (some (.ref C))->PySem.W.nsIn K mainGlobals y=some (some (.ref C'))->PySem.W.kitOne K (.ref C) (.ref C')=some (subX x y)
 subV:∀ x∈zhc,∀ C,PySem.W.nsIn K mainGlobals x=some (some (.ref C))->PySem.W.kitOne K (.ref C) (.type "ValueError")=some true
 exm:∀ x∈zhc,∀ C C',PySem.W.nsIn K mainGlobals x=some (some (.ref C))->PySem.W.nsIn K mainGlobals "FitError" = some (some (.ref C'))->PySem.W.exmOne K (.ref C) (.ref C')=some true
noncomputable def spR (K:PySem.W.Frag) (n:Nat) (φ:List D->Option W):Sp:=fun vs H Q E=>∃ F ds x C,Same F H/\DenL K F ds vs/\ds.length=n/\φ ds=some (.val (.exc x))/\PySem.W.nsIn K mainGlobals x=some (some (.ref C)) /\
 ∀ H' F',Same H H'->Same F F'->Same F' H'->(∀ a o,F' a=some o->F a=some o\/H a=none)->E (.ref C) none H'
def yku (X:Cx) (x:Str) (n:Nat) (φ:List D->Option W):Prop:=∃ (k:Nat) (f:Addr) (fd:FuncData) (ps:List Str),
 FnOk X.prog X.w X.K X.mg X.base (CX1 X.prog X.w) k f fd ps (spR X.K n φ)/\Room k X.A/\X.mg x=some (.ref f)/\PySem.W.keepIn X.K (.ref f)=true/\Binds X.K fd ps []
section
variable {X:Cx} {pins:List (Addr×Obj)} {σ:L2.St} {H:Hp} {s:Shared} {E':Value->Shared->Prop} {e:Expr} {es:List Expr} {pos:Pos}
end
section
variable {X:Cx} {e:Expr} {es:List Expr} {ρ:RhoS} {pos:Pos} {ds:List D}
end
end DL
namespace DL
open PySem L2 PyProof.Rows
noncomputable def isX (ys:List Str):D->Option Bool
 | .exc x=>if x∈zhc then some (ys.any (subX x)) else none
 | .non=>some false
 | _=>none
section
variable {X:Cx} {a e:Expr} {ρ:Rho} {pos:Pos}
end
end DL
namespace DL
open PySem L2 PyProof.Rows
section
variable {X:Cx} {pins:List (Addr×Obj)} {σ:L2.St} {H:Hp} {s:Shared}
end
end DL
namespace DL
open PySem L2 PyProof.Rows
mutual
noncomputable def toP:D->PyData
 | .non=>.none
 | .bl b=>.bool b
 | .int i=>.int i
 | .tup l=>.tuple (toPs l)
 | .lst l=>.list (toPs l)
 | .exc _=>.none
noncomputable def toPs:List D->List PyData
 | []=>[]
 | d::l=>toP d::toPs l
end
mutual
noncomputable def dOk:Nat->D->Bool
 | _,.non=>true
 | _,.bl _=>true
 | _,.int _=>true
 | 0,.tup _=>false
 | n+1,.tup l=>dOkL n l
 | 0,.lst _=>false
 | n+1,.lst l=>dOkL n l
 | _,.exc _=>false
noncomputable def dOkL:Nat->List D->Bool
 | _,[]=>true
 | n,d::l=>dOk n d && dOkL n l
end
mutual
noncomputable def eqD:D->D->Bool
 | .non,.non=>true
 | .bl a,.bl b=>a == b
 | .bl a,.int j=>(if a then 1 else 0) == j
 | .int i,.bl b=>i == (if b then 1 else 0)
 | .int i,.int j=>i == j
 | .tup l,.tup m=>eqL l m
 | .lst l,.lst m=>eqL l m
 | _,_=>false
noncomputable def eqL:List D->List D->Bool
 | [],[]=>true
 | d::l,e::m=>eqD d e && eqL l m
 | _,_=>false
end
mutual
theorem zpp:∀ (n m:Nat) (d e:D),dOk n d=true->dOk m e=true->PyData.eqv (toP d) (toP e)=eqD d e
 | n,m,.tup l,.tup k,h1,h2=>by
  cases n with
  | zero=>simp only [dOk] at h1;cases h1
  | succ n=>
   cases m with
   | zero=>simp only [dOk] at h2;cases h2
   | succ m=>
    simp only [dOk] at h1 h2;simp only [toP,PyData.eqv,eqD];exact eqv_L n m l k h1 h2
 | n,m,.lst l,.lst k,h1,h2=>by
  cases n with
  | zero=>simp only [dOk] at h1;cases h1
  | succ n=>
   cases m with
   | zero=>simp only [dOk] at h2;cases h2
   | succ m=>
    simp only [dOk] at h1 h2;simp only [toP,PyData.eqv,eqD];exact eqv_L n m l k h1 h2
 | n,m,.exc _,_,h1,_=>by simp only [dOk] at h1;cases h1
 | n,m,d,.exc _,_,h2=>by simp only [dOk] at h2;cases h2
 | n,m,.non,.non,_,_=>by simp only [toP,PyData.eqv,eqD]
 | n,m,.non,.bl _,_,_=>by simp only [toP,PyData.eqv,eqD]
 | n,m,.non,.int _,_,_=>by simp only [toP,PyData.eqv,eqD]
 | n,m,.non,.tup _,_,_=>by simp only [toP,PyData.eqv,eqD]
 | n,m,.non,.lst _,_,_=>by simp only [toP,PyData.eqv,eqD]
 | n,m,.bl _,.non,_,_=>by simp only [toP,PyData.eqv,eqD]
 | n,m,.bl _,.bl _,_,_=>by simp only [toP,PyData.eqv,eqD]
 | n,m,.bl _,.int _,_,_=>by simp only [toP,PyData.eqv,eqD]
 | n,m,.bl _,.tup _,_,_=>by simp only [toP,PyData.eqv,eqD]
 | n,m,.bl _,.lst _,_,_=>by simp only [toP,PyData.eqv,eqD]
 | n,m,.int _,.non,_,_=>by simp only [toP,PyData.eqv,eqD]
 | n,m,.int _,.bl _,_,_=>by simp only [toP,PyData.eqv,eqD]
 | n,m,.int _,.int _,_,_=>by simp only [toP,PyData.eqv,eqD]
 | n,m,.int _,.tup _,_,_=>by simp only [toP,PyData.eqv,eqD]
 | n,m,.int _,.lst _,_,_=>by simp only [toP,PyData.eqv,eqD]
 | n,m,.tup _,.non,_,_=>by simp only [toP,PyData.eqv,eqD]
 | n,m,.tup _,.bl _,_,_=>by simp only [toP,PyData.eqv,eqD]
 | n,m,.tup _,.int _,_,_=>by simp only [toP,PyData.eqv,eqD]
 | n,m,.tup _,.lst _,_,_=>by simp only [toP,PyData.eqv,eqD]
 | n,m,.lst _,.non,_,_=>by simp only [toP,PyData.eqv,eqD]
 | n,m,.lst _,.bl _,_,_=>by simp only [toP,PyData.eqv,eqD]
 | n,m,.lst _,.int _,_,_=>by simp only [toP,PyData.eqv,eqD]
 | n,m,.lst _,.tup _,_,_=>by simp only [toP,PyData.eqv,eqD]
theorem eqv_L:∀ (n m:Nat) (l k:List D),dOkL n l=true->dOkL m k=true->PyData.eqvAll (toPs l) (toPs k)=eqL l k
 | n,m,[],[],_,_=>by simp only [toPs,PyData.eqvAll,eqL]
 | n,m,d::l,e::k,h1,h2=>by
  simp only [dOkL,Zm] at h1 h2;simp only [toPs,PyData.eqvAll,eqL];rw [zpp n m d e h1.1 h2.1,eqv_L n m l k h1.2 h2.2]
 | n,m,[],_::_,_,_=>by simp only [toPs,PyData.eqvAll,eqL]
 | n,m,_::_,[],_,_=>by simp only [toPs,PyData.eqvAll,eqL]
end
mutual
theorem ztj:∀ (n:Nat) (d:D),dOk n d=true->(toP d).canLay0=true/\(toP d).depth<=n
 | _,.non,_=>by simp [toP,PyData.canLay0,PyData.depth]
 | _,.bl _,_=>by simp [toP,PyData.canLay0,PyData.depth]
 | _,.int _,_=>by simp [toP,PyData.canLay0,PyData.depth]
 | 0,.tup _,h=>by simp only [dOk] at h;cases h
 | n+1,.tup l,h=>by
  simp only [dOk] at h;refine xg (lay_L n l h) fun a b=>?_;simp only [toP,PyData.canLay0,PyData.depth];exact⟨a,by omega⟩
 | 0,.lst _,h=>by simp only [dOk] at h;cases h
 | n+1,.lst l,h=>by
  simp only [dOk] at h;refine xg (lay_L n l h) fun a b=>?_;simp only [toP,PyData.canLay0,PyData.depth];exact⟨a,by omega⟩
 | _,.exc _,h=>by simp only [dOk] at h;cases h
theorem lay_L:∀ (n:Nat) (l:List D),dOkL n l=true->PyData.canLayAll0 (toPs l)=true/\PyData.depthAll (toPs l)<=n
 | _,[],_=>by simp [toPs,PyData.canLayAll0,PyData.depthAll]
 | n,d::l,h=>by
  simp only [dOkL,Zm] at h;refine xg (ztj n d h.1) fun a b=>?_;refine xg (lay_L n l h.2) fun c e=>?_;simp only [toPs,PyData.canLayAll0,PyData.depthAll,Zm];exact⟨⟨a,c⟩,by omega⟩
end
section
variable {X:Cx} {pins:List (Addr×Obj)} {σ:L2.St} {H F:Hp} {s:Shared}
mutual
theorem zbm (I:Inv X pins σ H s) (sF:Same F H):∀ (n:Nat) (d:D) {v:V} {u:Value},dOk n d=true->Den X.K F d v->RelV v u->∃ as,Reads s.heap u (toP d) as
 | _,.non,v,u,_,h,r=>by rw [h.non] at r;cases (show u=Value.none from r);exact⟨_,.none⟩
 | _,.bl b,v,u,_,h,r=>by rw [h.bl] at r;cases (show u=Value.bool b from r);exact⟨_,.bool b⟩
 | _,.int i,v,u,_,h,r=>by
  rw [h.int] at r;refine xb ((show ∃ t,u=Value.int i t from r)) fun t e=>?_;subst e;exact⟨_,.int i t⟩
 | 0,.tup _,_,_,h,_,_=>by simp only [dOk] at h;cases h
 | n+1,.tup l,v,u,hd,h,r=>by
  simp only [dOk] at hd;refine xc h.tup fun a xs e sq q=>?_;subst e;cases (show u=Value.ref a from r)
  obtain⟨its,rs,⟨o,h1,h2,k,h3⟩,_⟩:=I.tuple (Same.tup sF sq)
  refine xb (reads_L I sF n l hd q rs) fun as ra=>?_;exact⟨_,.tuple h1 h2 h3 (by simpa using ra)⟩
 | 0,.lst _,_,_,h,_,_=>by simp only [dOk] at h;cases h
 | n+1,.lst l,v,u,hd,h,r=>by
  simp only [dOk] at hd;refine xc h.lst fun a xs e sq q=>?_;subst e;cases (show u=Value.ref a from r)
  obtain⟨its,rs,⟨o,k,h1,h2,h3⟩,_⟩:=I.list (sF.seq sq)
  refine xb (reads_L I sF n l hd q rs) fun as ra=>?_;exact⟨_,.list h1 h2 h3.2 (by simpa using ra)⟩
 | _,.exc _,_,_,h,_,_=>by simp only [dOk] at h;cases h
theorem reads_L (I:Inv X pins σ H s) (sF:Same F H):∀ (n:Nat) (l:List D) {xs:List V} {us:List Value},dOkL n l=true->DenL X.K F l xs->Vals xs us->∃ as,ReadsAll s.heap us (toPs l) as
 | _,[],xs,us,_,h,r=>by
  rw [h.inv_nil] at r;cases r;exact⟨_,.nil⟩
 | n,d::l,xs,us,hd,h,r=>by
  simp only [dOkL,Zm] at hd;refine xc h.inv_cons fun v vs e q1 q2=>?_;subst e;cases r with
  | cons r1 r2=>
   refine xb (zbm I sF n d hd.1 q1 r1) fun as ra=>?_;refine xb (reads_L I sF n l hd.2 q2 r2) fun bs rb=>?_;exact⟨_,.cons ra rb⟩
end
end
section
variable {X:Cx}
theorem zgq {d:D} (h:dOk 50 d=true):SeqAt.shaped (toP d)=true:=by
 refine xg (ztj 50 d h) fun a b=>?_;unfold SeqAt.shaped;rw [a,V2];exact decide_eq_true (by omega)
noncomputable def yau (K:PySem.W.Frag) (x y:D) (k:Bool):R2:=fun v u H Q=>∃ F,Same F H/\Den K F x v/\Den K F y u/\Q (.bl k) H
theorem zyg {x y:D} (hu:X.A.units+64<cLine) (hx:dOk 50 x=true) (hy:dOk 50 y=true):zcr X .Eq x y (eqD x y):=by
 refine⟨yau X.K x y (eqD x y),?_,fun H F v u Q s qv qu q=>⟨F,s,qv,qu,q⟩⟩
 intro pins s σ H v u vv uu Q I r1 r2 ⟨F,sF,q1,q2,q⟩;refine xb (zbm I sF 50 x hx q1 r1) fun as ra=>?_;refine xb (zbm I sF 50 y hy q2 r2) fun bs rb=>?_;refine eq_dataH ra rb (zgq hx) (zgq hy) hu ?_;rw [zpp 50 50 x y hx hy];exact⟨.bl _,H,I,rfl,q⟩
theorem zyf {x y:D} (hu:X.A.units+64<cLine) (hx:dOk 50 x=true) (hy:dOk 50 y=true):zcr X .NotEq x y (!eqD x y):=by
 refine⟨yau X.K x y (!eqD x y),?_,fun H F v u Q s qv qu q=>⟨F,s,qv,qu,q⟩⟩
 intro pins s σ H v u vv uu Q I r1 r2 ⟨F,sF,q1,q2,q⟩;refine xb (zbm I sF 50 x hx q1 r1) fun as ra=>?_;refine xb (zbm I sF 50 y hy q2 r2) fun bs rb=>?_;refine ne_dataH ra rb (zgq hx) (zgq hy) hu ?_;rw [zpp 50 50 x y hx hy];exact⟨.bl _,H,I,rfl,q⟩
theorem yko {x:D} (hx:dOk 50 x=true):∀ (l:List D),dOkL 49 l=true->((toPs l).any fun y=>PyData.eqv y (toP x))=l.any fun y=>eqD y x
 | [],_=>rfl
 | d::l,h=>by
  simp only [dOkL,Zm] at h;simp only [toPs,List.any_cons];rw [zpp 49 50 d x h.1 hx,yko hx l h.2]
theorem yju {x:D} {l:List D} (hu:X.A.units+64<cLine) (hx:dOk 50 x=true) (hy:dOkL 49 l=true):zcr X .In x (.lst l) (l.any fun y=>eqD y x):=by
 refine⟨yau X.K x (.lst l) _,?_,fun H F v u Q s qv qu q=>⟨F,s,qv,qu,q⟩⟩
 intro pins s σ H v u vv uu Q I r1 r2 ⟨F,sF,q1,q2,q⟩;refine xb (zbm I sF 50 x hx q1 r1) fun as ra=>?_;refine xb (zbm I sF 50 (.lst l) (by simp only [dOk];exact hy) q2 r2) fun bs rb=>?_;simp only [toP] at rb;refine xg (ztj 50 x hx) fun a b=>?_;refine xg (lay_L 49 l hy) fun a2 b2=>?_;refine SeqAt.in_list_reads rb ra a2 a (by have:=Nat.min_le_right (PyData.depthAll (toPs l)) (toP x).depth;omega) ?_;rw [yko hx l hy];exact⟨.bl _,H,I,rfl,q⟩
theorem yct {x:D} {l:List D} (hu:X.A.units+64<cLine) (hx:dOk 50 x=true) (hy:dOkL 49 l=true):zcr X .NotIn x (.lst l) (!(l.any fun y=>eqD y x)):=by
 refine⟨yau X.K x (.lst l) _,?_,fun H F v u Q s qv qu q=>⟨F,s,qv,qu,q⟩⟩
 intro pins s σ H v u vv uu Q I r1 r2 ⟨F,sF,q1,q2,q⟩;refine xb (zbm I sF 50 x hx q1 r1) fun as ra=>?_;refine xb (zbm I sF 50 (.lst l) (by simp only [dOk];exact hy) q2 r2) fun bs rb=>?_;simp only [toP] at rb;refine xg (ztj 50 x hx) fun a b=>?_;refine xg (lay_L 49 l hy) fun a2 b2=>?_;refine SeqAt.notIn_list_reads rb ra a2 a (by have:=Nat.min_le_right (PyData.depthAll (toPs l)) (toP x).depth;omega) ?_;rw [yko hx l hy];exact⟨.bl _,H,I,rfl,q⟩
end
end DL
namespace DL
open PySem L2 PyProof.Rows
noncomputable def cloF (cells:List (Str×Addr)):List (Str×NameKind)->List (Str×Addr)->List (Str×Addr)
 | [],cs=>cs
 | (n,k)::r,cs=>cloF cells r (if (k == NameKind.free)=true then (n,(cells.lookup n).getD 0)::cs else cs)
theorem yfm {scope:Scope} {env:Env} (h:∀ y∈scope.names,y.2=.free->∃ c,env.cells.lookup y.1=some c):closureFor scope env=pure (cloF env.cells scope.names []):=by
 have key:∀ (l:List (Str×NameKind)) (cs:List (Str×Addr)),(∀ y∈l,y.2=.free->∃ c,env.cells.lookup y.1=some c) ->
   (forIn l cs (fun x cs=>if (x.2 == NameKind.free)=true then do let a <- cellOf env x.1;pure (ForInStep.yield ((x.1,a)::cs)) else pure (ForInStep.yield cs)):Sem (List (Str×Addr)))=pure (cloF env.cells l cs):=by
  intro l;induction l with
  | nil=>intro cs _;rfl
  | cons y l ih=>
   intro cs h;rw [Vf];obtain⟨n,k⟩:=y
   have ih':=fun cs=>ih cs fun z hz=>h z (Yl _ hz)
   by_cases e:(k == NameKind.free)=true
   ·refine xb (h (n,k) Y9 (by cases k <;> first | rfl | cases e)) fun c hc=>?_;have hcell:cellOf env n=pure c:=by unfold cellOf;rw [hc]
    simp only [e,if_true,hcell,pure_bind];rw [ih'];simp only [cloF,e,if_true,hc,Gw]
   ·simp only [e,if_false,pure_bind,Zx];rw [ih'];simp only [cloF,e,if_false,Zx]
 unfold closureFor;have:=key scope.names [] h
 simp only [bind_pure];first | exact this | (refine Eq.trans ?_ this;rfl) | (simp at this |-;exact this)
theorem zgw {cells:List (Str×Addr)}:∀ (l:List (Str×NameKind)) (cs:List (Str×Addr)),(∀ y∈l,y.2=.free->∃ c,cells.lookup y.1=some c)->(∀ p∈cs,cells.lookup p.1=some p.2)->∀ p∈cloF cells l cs,cells.lookup p.1=some p.2
 | [],cs,_,h,p,hp=>h p hp
 | (n,k)::r,cs,hl,h,p,hp=>by
  unfold cloF at hp;refine zgw r _ (fun z hz=>hl z (Yl _ hz)) (fun q hq=>?_) p hp;by_cases e:(k == NameKind.free)=true
  ·rw [if_pos e] at hq;rcases Zi.mp hq with z | z
   ·subst z;refine xb (hl (n,k) Y9 (by cases k <;> first | rfl | cases e)) fun c hc=>?_;simp only [hc,Gw]
   ·exact h q z
  ·rw [if_neg e] at hq;exact h q hq
theorem zob {cells:List (Str×Addr)}:∀ (l:List (Str×NameKind)) (cs:List (Str×Addr)) (p:Str×Addr),p∈cs->p∈cloF cells l cs
 | [],_,_,h=>h
 | (n,k)::r,cs,p,h=>by
  unfold cloF;refine zob r _ p ?_;by_cases e:(k == NameKind.free)=true
  ·rw [if_pos e];exact Yl _ h
  ·rw [if_neg e];exact h
theorem zlh {cells:List (Str×Addr)}:∀ (l:List (Str×NameKind)) (cs:List (Str×Addr)) (x:Str),(x,NameKind.free)∈l->∃ c,(x,c)∈cloF cells l cs
 | (n,k)::r,cs,x,h=>by
  unfold cloF;rcases Zi.mp h with z | z
  ·cases z;have ef:(NameKind.free == NameKind.free)=true:=rfl;simp only [ef,if_true];exact⟨_,zob r _ _ Y9⟩
  ·exact zlh r _ x z
theorem zbe {α:Type}:∀ {l:List (Str×α)} {x:Str} {c:α},l.lookup x=some c->(x,c)∈l
 | [],_,_,h=>by cases h
 | (n,a)::r,x,c,h=>by
  rw [W3] at h;cases q:(x == n) with
  | true=>rw [q] at h;cases h;rw [eq_of_beq q];exact Y9
  | false=>rw [q] at h;exact Yl _ (zbe h)
theorem zff {α:Type}:∀ {l:List (Str×α)} {x:Str} {c:α},(x,c)∈l->∃ c',l.lookup x=some c'
 | (n,a)::r,x,c,h=>by
  rw [W3];cases q:(x == n) with
  | true=>exact⟨_,rfl⟩
  | false=>
   rcases Zi.mp h with z | z
   ·cases z;rw [beq_self_eq_true] at q;cases q
   ·exact zff z
end DL
namespace DL
open PySem L2 PyProof.Rows
theorem zds {scope:Scope} {env:Env} {x:Str}:(relabel scope env).names.lookup x=(scope.names.lookup x).map fun k=>if (k == NameKind.free && env.scope.kind == .function && env.kindOf x == some .cell)=true then NameKind.cell else k:=by
 unfold relabel;simp only
 generalize scope.names=l;induction l with
 | nil=>rfl
 | cons y l ih=>
  obtain⟨n,k⟩:=y
  rw [Zv];by_cases hc:(k == NameKind.free && env.scope.kind == .function && env.kindOf n == some .cell)=true
  ·simp only [hc,if_true];rw [W3,W3];cases q:(x == n) with
   | true=>have:=eq_of_beq q;subst this;simp only [Yq];rw [if_pos hc]
   | false=>simpa using ih
  ·simp only [hc];rw [if_neg (by simp),W3,W3];cases q:(x == n) with
   | true=>have:=eq_of_beq q;subst this;simp only [Yq];rw [if_neg hc]
   | false=>simpa using ih
noncomputable def blk (X:Cx) (scope:Scope) (cl:List (Str×Addr)) (C:Addr) (N':List Str) (s₀:Shared) (H₀:Hp) (ex:List Addr):Cx:=
 {X with N:=N',s₀:=s₀,H₀:=H₀,env:=compEnvC scope cl C X.env,outer:=X.stack,stack:=X.stack,ex:=ex,fn:=fun _=>false,pn:=[],xe:=fun _ _=>False}
section
variable {X:Cx} {pins:List (Addr×Obj)} {σ:L2.St} {H:Hp} {s:Shared} {scope:Scope} {C:Addr} {N':List Str} {fp:List Addr}
theorem blk_ok (I:Inv X pins σ H s) (hk:scope.kind=.function) (hcell:∀ y∈scope.names,y.2 ≠ .cell) (hfree:∀ y∈scope.names,y.2=.free->∃ c,X.env.cells.lookup y.1=some c)
  (hC:s.heap.objs.size<=C) (hfp:∀ b∈fp,FpOk X pins H b) (hfo:∀ b∈fp,∃ o,s.heap.get? b=some o):(blk X scope (cloF X.env.cells scope.names []) C N' s H fp).Ok:=by
 have hcl:∀ {x c},(cloF X.env.cells scope.names []).lookup x=some c->X.env.cells.lookup x=some c:=fun h=>zgw scope.names [] hfree (fun p hp=>nomatch hp) _ (zbe h)
 refine⟨I.ok.mod,hk,I.ok.glob,I.ok.blt,hC,fun x y c h1 h2=>I.ok.inj x y c (hcl h1) (hcl h2),fun x h=>?_,fun x c h=>absurd h (by simp [blk]),I.ok.hd,I.ok.frames,.inl rfl,fun b hb=>?_,I.bs,Y3 I.ok.bsz I.sz,fun b o e hb=>?_,fun b hb z=>?_,I.stack,I.stkFree⟩
 ·have hx:(relabel scope X.env).names.lookup x=some .cell\/(relabel scope X.env).names.lookup x=some .free:=h;rw [zds] at hx;have:scope.names.lookup x=some .free:=by
   cases q:scope.names.lookup x with
   | none=>rw [q] at hx;rcases hx with z | z <;> cases z
   | some k=>
    rw [q] at hx;have hm:=zbe q;cases k with
    | free=>rfl
    | cell=>exact absurd rfl (hcell _ hm)
    | _=>rcases hx with z | z <;> simp at z
  obtain⟨c,hc⟩:=zlh scope.names [] x (zbe this)
  exact zff hc
 ·refine xb (hfo b hb) fun o e=>?_;refine⟨?_,fun x c h=>(hfp b hb).2.2.2.2.1 x c (hcl h)⟩
  exact Z1 (Zp (Zo e) hC)
 ·rcases (hfp b hb).2.2.2.1 with z | z
  ·exact I.ok.noex b o e z
  ·exact absurd (Zp (Zo e) (Y3 I.ok.bsz z)) (Nat.lt_irrefl _)
 ·rcases Zi.mp (I.stkSub b z) with e | e
  ·exact (hfp b hb).2.1 e
  ·exact (hfp b hb).2.2.1 e
theorem ykg {s':Shared} {h':Heap} {t':Nat} {σ':L2.St} (I:Inv X pins σ H s) (hk:scope.kind=.function) (hcell:∀ y∈scope.names,y.2 ≠ .cell) (hfree:∀ y∈scope.names,y.2=.free->∃ c,X.env.cells.lookup y.1=some c)
  (hC:C=s.heap.objs.size) (hfp:∀ b∈fp,FpOk X pins H b) (hfo:∀ b∈fp,∃ o,s.heap.get? b=some o) {m:Str->Option Value} (hns:h'.Ns C m) (hkp:∀ b o,s.heap.get? b=some o->h'.get? b=some o)
  (hl:σ'.length=N'.length)
  (hv:∀ (i:Nat) (x:Str) (v:V),N'[i]? = some x->σ'[i]? = some (some v)->scope.names.lookup x=some .free/\X.env.kindOf x=some .cell/\∃ j:Nat,X.N[j]? = some x/\σ[j]? = some (some v)) :
  Inv (blk X scope (cloF X.env.cells scope.names []) C N' s H fp) [] σ' H {s with heap:=h',toks:=t'}:=by
 have hcl:∀ {x c},(cloF X.env.cells scope.names []).lookup x=some c->X.env.cells.lookup x=some c:=fun h=>zgw scope.names [] hfree (fun p hp=>nomatch hp) _ (zbe h)
 refine⟨blk_ok I hk hcell hfree (Nat.le_of_eq hC.symm) hfp hfo,rfl,I.bare,Un.kept hkp,⟨m,hns,fun i x v e1 e2 e3=>?_⟩,fun x c e=>?_,?_,fun x c e=>I.freeC x c (hcl e),fun p hp=>?_,I.hok.kept hkp,hl⟩
 ·refine vg (hv i x v e1 e2) fun f1 f2 j g1 g2=>?_;refine xa I.loc fun m0 hn0 hl0=>?_;refine xa (hl0 j x v g1 g2 (.inr (.inl f2))) fun u r lk=>?_;refine⟨u,r,.inr ⟨.inl ?_,?_⟩⟩
  ·show (relabel scope X.env).names.lookup x=some .cell;rw [zds,f1];have:(X.env.scope.kind == ScopeKind.function)=true:=by rw [I.ok.kind];rfl
   simp [this,f2]
  ·rcases lk with⟨z,_⟩ | ⟨_,c,hc,hcell'⟩
   ·rw [f2] at z;cases z
   ·obtain⟨c',hc'⟩:=zlh scope.names [] x (zbe f1)
    refine xb (zff hc') fun c2 hc2=>?_;have:=hcl hc2
    rw [hc] at this;cases this;refine xa hcell' fun o ho hd=>?_;clear hcell'
    exact⟨c,hc2,o,hkp _ _ ho,hd⟩
 ·refine xi (I.cell x c (hcl e)) fun v o ho hd=>?_;exact⟨v,o,hkp _ _ ho,hd⟩
 ·show H C=none;rw [hC];exact I.hok.fresh (Zh _)
 ·exact nomatch hp
theorem ykh {cl:List (Str×Addr)} {σ':L2.St} {H':Hp} {s':Shared} {pl:List (Addr×Obj)} (I:Inv X pins σ H s) (hfp:∀ b∈fp,FpOk X pins H b) (J:Inv (blk X scope cl C N' s H fp) pl σ' H' s'):Inv X pins σ H' s':=
 I.call' (ch:=fp) J.os J.base J.hok J.bare fun b hb=>⟨(hfp b hb).2.2.2.1,(hfp b hb).2.1,(hfp b hb).2.2.2.2.1,(hfp b hb).2.2.2.2.2⟩
end
end DL
namespace DL
open PySem L2 PyProof.Rows
section
variable {K:PySem.W.Frag} {H0 Fc F H:Hp} {σ:L2.St} {ρ:Rho}
theorem ER.mutF (R:ER K H0 Fc F H σ ρ) {a:Addr} {o:HO} (hF:F a=none) (h0:H0 a=none):ER K H0 Fc F (upd H a o) σ ρ:=
 ⟨fun b u e=>by rw [B3 (fun z=>by subst z;rw [hF] at e;cases e)];exact R.sub b u e,fun b u e=>by rw [B3 (fun z=>by subst z;rw [h0] at e;cases e)];exact R.same b u e,R.base,R.new,R.env⟩
theorem ER.here (R:ER K H0 Fc F H σ ρ):ER K H F F H σ ρ:=⟨R.sub,Same.refl _,Same.refl _,fun a o e=>.inl e,R.env⟩
theorem ER.there {F' H':Hp} {σ':L2.St} {ρ':Rho} (R:ER K H0 Fc F H σ ρ) (R':ER K H F F' H' σ' ρ'):ER K H0 Fc F' H' σ' ρ':=
 ⟨R'.sub,R.same.trans R'.same,R.base.trans R'.base,fun a o e=>(R'.new a o e).elim (R.new a o) fun z=>.inr (R.same.free z),R'.env⟩
theorem ER.fewer {ρ':Rho} (R:ER K H0 Fc F H σ ρ) (h:∀ (i:Nat) d,ρ'[i]? = some (some d)->ρ[i]? = some (some d)):ER K H0 Fc F H σ ρ':=⟨R.sub,R.same,R.base,R.new,fun i d e=>R.env i d (h i d e)⟩
end
def DIe (X:Cx) (tg iter:Expr) (ρ:Rho) (items:List D):Prop:=∀ H0 Fc,PI X tg iter (fun σ H R=>∃ F,ER X.K H0 Fc F H σ ρ/\∀ J H' F',Same F F'->ER X.K H0 Fc F' H' σ ρ->Walks X.K F' J items->R J H')
def DGe (X:Cx) (tg:Expr) (d:D) (ρ ρ':Rho):Prop:=∀ H0 Fc,PG X tg (fun v σ H Q=>σ.length=X.N.length/\∃ F,ER X.K H0 Fc F H σ ρ/\Den X.K F d v/\∀ σ',σ'.length=X.N.length->ER X.K H0 Fc F H σ' ρ'->Q σ' H)
noncomputable def zcp (f:D->Option (Option D)):List D->Option (List D)
 | []=>some []
 | d::l=>match f d with
  | none=>none
  | some none=>zcp f l
  | some (some e)=>(zcp f l).map fun r=>e::r
def DTs (X:Cx) (ifs:List Expr) (ρ:Rho) (k:Bool):Prop:=(ifs=[]/\k=true)\/∃ c,ifs=[c]/\DT X c ρ k
section
variable {X:Cx} {pins:List (Addr×Obj)} {σ:L2.St} {H1:Hp} {s2:Shared} {tg elt iter:Expr} {ifs:List Expr} {scope:Scope} {pos:Pos} {fp:List Addr} {it:Addr} {tn:Nat->Heap->Prop} {J:It} {N':List Str} {items res:List D} {f:D->Option (Option D)} {ρ0:Rho}
def CInv (X:Cx) (scope:Scope) (C:Addr) (N':List Str) (s3:Shared) (H1:Hp) (D:Addr) (fp:List Addr) (tn:Nat->Heap->Prop) (items:List DL.D) (H0 Fc F1:Hp) (ρ0:Rho) (f:DL.D->Option (Option DL.D)) (res:List DL.D) (n:Nat) (s':Shared):Prop:=
 ∃ i σ1 Ha Fa ys done rest,Inv (blk X scope (cloF X.env.cells scope.names []) C N' s3 (upd H1 D (.lst [])) fp) [] σ1 Ha s'/\tn i s'.heap/\(∀ b∈fp,Ha b=none)/\n=items.length+1-i/\i<=items.length /\
   ER X.K H0 Fc Fa Ha σ1 ρ0/\Same F1 Fa/\Fa D=none/\Ha D=some (.lst ys)/\DenL X.K Fa done ys/\zcp f (items.drop i)=some rest/\done++rest=res/\done.length<=i
theorem zyc {H0 Fc F1:Hp} {ρ:Rho} {σ':L2.St} {RR:Value->Addr->Result->Shared->Prop} {E:Value->Shared->Prop} (I:Inv X pins σ H1 s2) (hcalm:X.calm=true) (T:Turn X.prog X.w X.K tg J fp it tn) (h0:tn 0 s2.heap) (hfp:∀ b∈fp,FpOk X pins H1 b)
  (hk:scope.kind=.function) (hcell:∀ y∈scope.names,y.2 ≠ .cell) (hfree:∀ y∈scope.names,y.2=.free->∃ c,X.env.cells.lookup y.1=some c)
  (R1:ER X.K H0 Fc F1 H1 σ ρ) (hl:σ'.length=N'.length) (hρ:∀ (i:Nat) d,ρ0[i]? = some (some d)->∃ v,σ'[i]? = some (some v)/\Den X.K F1 d v)
  (hv:∀ (i:Nat) (x:Str) (v:V),N'[i]? = some x->σ'[i]? = some (some v)->scope.names.lookup x=some .free/\X.env.kindOf x=some .cell/\∃ j:Nat,X.N[j]? = some x/\σ[j]? = some (some v))
  (wk:Walks X.K F1 J items) (hsz:items.length<=sizeLine) (hres:zcp f items=some res)
  (hblk:∀ (C:Addr) (s₀:Shared) (H₀:Hp) (d:D) (o:Option D),d∈items->f d=some o->∃ ρd,DGe (blk X scope (cloF X.env.cells scope.names []) C N' s₀ H₀ fp) tg d ρ0 ρd/\(∀ (i:Nat) d,ρ0[i]? = some (some d)->ρd[i]? = some (some d)) /\
   (match o with | none=>DTs (blk X scope (cloF X.env.cells scope.names []) C N' s₀ H₀ fp) ifs ρd false | some e=>DTs (blk X scope (cloF X.env.cells scope.names []) C N' s₀ H₀ fp) ifs ρd true/\DF (blk X scope (cloF X.env.cells scope.names []) C N' s₀ H₀ fp) elt ρd e))
  (kend:∀ (D C:Addr) (s5:Shared) (H' F':Hp) (ys:List V) (m:Str->Option Value),Inv X pins σ H' s5->s5.heap.Ns C m->H' C=none->C≠X.env.locals->X.s₀.heap.objs.size<=C->(∀ x c,X.env.cells.lookup x=some c->c≠C)->(∀ p∈X.pn++pins,p.1≠C) ->
   Same F1 F'->ER X.K H0 Fc F' H' σ ρ->F' D=none->H0 D=none->H' D=some (.lst ys)->DenL X.K F' res ys->RR (.ref D) C (.ok .next) s5)
  {D C:Addr} {s3:Shared} {h4:Heap} {tk:Nat} (I3:Inv X pins σ (upd H1 D (.lst [])) s3) (fo3:∀ b∈fp,∃ o,s3.heap.get? b=some o) (hfp3:∀ b∈fp,FpOk X pins (upd H1 D (.lst [])) b) (hC:s3.heap.objs.size=C) (J4:Inv (blk X scope (cloF X.env.cells scope.names []) C N' s3 (upd H1 D (.lst [])) fp) [] σ' (upd H1 D (.lst [])) {s3 with heap:=h4,toks:=tk}) (tn4:tn 0 h4)
  (CX:C≠X.env.locals/\X.s₀.heap.objs.size<=C/\(∀ x c,X.env.cells.lookup x=some c->c≠C)/\(∀ p∈X.pn++pins,p.1≠C)) (R4:ER X.K H0 Fc F1 (upd H1 D (.lst [])) σ' ρ0) (hFD:F1 D=none) (h0D:H0 D=none) :
  codeAny (model X.prog X.w) X.A (.compLoop (.ListComp elt [⟨tg,iter,ifs,0⟩] scope pos) 0 (.ref it) (.ref D) (compEnvC scope (cloF X.env.cells scope.names []) C X.env)) (RR (.ref D) C) {s3 with heap:=h4,toks:=tk}:=by
 refine codeAny_loop rfl (CInv X scope C N' s3 H1 D fp tn items H0 Fc F1 ρ0 f res) ?_ (items.length+1)
  ⟨0,σ',_,F1,[],[],res,J4,tn4,fun b hb=>(hfp3 b hb).1,rfl,Ya _,R4,Same.refl _,hFD,Bz,DenL.nil,hres,rfl,Ya _⟩
 rintro n s5 ⟨i,σ1,Ha,Fa,ys,done,rest,J5,tn5,fr5,rfl,hi,R5,sF5,hFD5,hD5,dn5,cl5,rs5,dl5⟩
 show wpAny _ X.A ((compTurn (.ListComp elt [⟨tg,iter,ifs,0⟩] scope pos) 0 (.ref it) (.ref D) (compEnvC scope (cloF X.env.cells scope.names []) C X.env)).onRaise (fun x=>do noteFrame x (compEnvC scope (cloF X.env.cells scope.names []) C X.env);theTreesLotGoes x)) _ _ s5;refine wpAny_noted ?_;rw [compTurn_list];have fx:∀ {Hx:Hp},(∀ b∈fp,Hx b=none)->∀ b∈fp,FpOk (blk X scope (cloF X.env.cells scope.names []) C N' s3 (upd H1 D (.lst [])) fp) [] Hx b:=fun hn b hb=>by
  refine⟨hn b hb,?_,?_,.inl hb,?_,fun p hp=>nomatch hp⟩
  ·refine xb (fo3 b hb) fun o e=>?_;show b≠C;rw [<- hC];exact Z1 (Zo e)
  ·intro z;rcases Zi.mp (I.stkSub b z) with e | e
   ·exact (hfp b hb).2.1 e
   ·exact (hfp b hb).2.2.1 e
  ·intro x c h;exact (hfp b hb).2.2.2.2.1 x c (zgw scope.names [] hfree (fun p hp=>nomatch hp) _ (zbe h))
 have ff:∀ {α:Type} {t:Sem α} {Q:α->Shared->Prop} {E':Value->Shared->Prop} {s:Shared},wpAny (model X.prog X.w) X.A t Q (fun _ _=>False) s->wpAny (model X.prog X.w) X.A t Q E' s:=fun h=>Ky h (fun _ _ q=>q) fun _ _ z=>z.elim
 have wk5:=wk i Ha (sF5.trans R5.sub);refine Zc (Jm (Zc ?_));by_cases hlt:i<items.length
 ·have hd:items[i]? = some items[i]:=Ze hlt;rw [Wp hlt] at cl5;refine xg (wk5.1 _ hd) fun go yl=>?_;refine ff (thn (T.item (blk X scope (cloF X.env.cells scope.names []) C N' s3 (upd H1 D (.lst [])) fp) rfl rfl rfl hcalm i [] s5 σ1 Ha (fun _ _=>False) J5 (fx fr5) tn5 go) fun r s6 hz=>xa hz fun u hr h6=>?_);subst hr;refine Zc (ff (thn h6 fun _ s7 hz=>xm hz fun x H7 J7 r7 y7 tn7 fr7=>?_));obtain⟨F7,sF7,R7,q7,hD7,hFD7⟩:∃ F7,Same Fa F7/\ER X.K H0 Fc F7 H7 σ1 ρ0/\Den X.K F7 items[i] x/\H7 D=some (.lst ys)/\F7 D=none:=by
   rcases yl x H7 y7 with⟨e,q⟩ | ⟨p,xs,ds,hp,e,ex,ed,q⟩
   ·subst e;exact⟨Fa,Same.refl _,R5,q.mono sF5,hD5,hFD5⟩
   ·subst e ex;refine xg (R5.lay (.tup xs) hp) fun R8 s8=>?_;have npD:D≠p:=fun z=>by subst z;rw [hD5] at hp;cases hp
    refine⟨_,s8,R8,?_,by rw [B3 npD];exact hD5,by rw [B3 npD];exact hFD5⟩
    rw [ed];exact Den.tup_mk (SqT.of Bz) ((q.mono sF5).mono s8)
  have J8:=J7.pinned (fx fr7) (T.obj _ _ tn7);have fin:∀ {s9:Shared} {σ9:L2.St} {H9 F9:Hp} {zs:List V} {more left:List DL.D},Inv (blk X scope (cloF X.env.cells scope.names []) C N' s3 (upd H1 D (.lst [])) fp) ([]++zjo fp s7.heap) σ9 H9 s9->ER X.K H0 Fc F9 H9 σ9 ρ0->Same F1 F9->F9 D=none->H9 D=some (.lst zs)->DenL X.K F9 more zs ->
    zcp f (items.drop (i+1))=some left->more++left=res->more.length<=i+1 ->
    ∃ m,m<items.length+1-i/\CInv X scope C N' s3 H1 D fp tn items H0 Fc F1 ρ0 f res m s9:=by
   intro s9 σ9 H9 F9 zs more left J9 R9 sF9 hF9 hD9 dn9 cl9 rs9 dl9;refine⟨items.length+1-(i+1),by omega,i+1,σ9,H9,F9,zs,more,left,J9.unpinned,?_,fun b hb=>?_,rfl,hlt,R9,sF9,hF9,hD9,dn9,cl9,rs9,dl9⟩
   ·exact T.keep _ _ _ tn7 fun b hb o e=>(J9.pin (b,o) (Yo _ (Yo _ (zdl hb e)))).1
   ·refine xa (T.obj _ _ tn7 b hb) fun o e _=>?_;exact (J9.pin (b,o) (Yo _ (Yo _ (zdl hb e)))).2.1
  unfold zcp at cl5;cases hf:f items[i] with
  | none=>rw [hf] at cl5;cases cl5
  | some o=>
   rw [hf] at cl5;refine xh (hblk C s3 (upd H1 D (.lst [])) items[i] o (Bk hlt) hf) fun ρd hG hsub hO=>?_;refine Zc (ff (thn (hG H0 Fc _ s7 σ1 H7 x u (fun σ9 H9=>H9=H7/\ER X.K H0 Fc F7 H7 σ9 ρd) J8 r7 ⟨J7.len,F7,R7,q7,fun σ9 hl9 R9=>⟨rfl,R9⟩⟩) fun _ s8 hz=>xc hz fun σ9 H9 J9 e9 R9=>?_));subst e9;have tests:∀ k,DTs (blk X scope (cloF X.env.cells scope.names []) C N' s3 (upd H1 D (.lst [])) fp) ifs ρd k ->
     wpAny (model X.prog X.w) X.A (forIn ifs true fun c r=>if r=true then do let ok <- isTrue c (compEnvC scope (cloF X.env.cells scope.names []) C X.env) (eval c (compEnvC scope (cloF X.env.cells scope.names []) C X.env));pure (ForInStep.yield ok) else pure (ForInStep.yield r))
      (fun ok s'=>ok=k/\∃ H10 F10,Inv (blk X scope (cloF X.env.cells scope.names []) C N' s3 (upd H1 D (.lst [])) fp) ([]++zjo fp s7.heap) σ9 H10 s'/\Same F7 F10/\ER X.K H9 F7 F10 H10 σ9 ρd) (fun _ _=>False) s8:=by
    intro k hk;rcases hk with⟨e1,e2⟩ | ⟨c,e1,hT⟩
    ·subst e1 e2;exact wpAny_tests_nil ⟨rfl,H9,F7,J9,Same.refl _,R9.here⟩
    ·subst e1;refine wpAny_tests_one (thn (hT H9 F7 _ s8 σ9 H9 (fun b H10=>b=k/\∃ F10,Same F7 F10/\ER X.K H9 F7 F10 H10 σ9 ρd) J9 ⟨F7,R9.here,fun H10 F10 s10 R10=>⟨rfl,F10,s10,R10⟩⟩) fun b s' hz=>vD hz fun H10 J10 e10 F10 s10 R10=>⟨e10,H10,F10,J10,s10,R10⟩)
   have dfree:∀ {F10 H10:Hp} {σ':L2.St} {ρ':Rho},ER X.K H9 F7 F10 H10 σ' ρ'->H10 D=some (.lst ys)/\F10 D=none:=fun {F10 H10 σ' ρ'} R10=>by
    refine⟨R10.same D _ hD7,?_⟩
    cases z:F10 D with
    | none=>rfl
    | some o=>
     rcases R10.new D o z with w | w
     ·rw [hFD7] at w;cases w
     ·rw [hD7] at w;cases w
   cases o with
   | none=>
    refine Zc (ff (thn (tests false hO) fun ok s9 hz=>xA hz fun eok H10 F10 J10 s10 R10=>?_));subst eok;refine xg (dfree R10) fun hD10 hF10=>?_;refine Zg ⟨rfl,fin J10 ((R9.there R10).fewer hsub) ((sF5.trans sF7).trans s10) hF10 hD10 ((dn5.mono sF7).mono s10) cl5 rs5 (by omega)⟩
   | some e=>
    refine xg hO fun hT hE=>?_;clear hO
    refine xa (Zb.mp cl5) fun left hleft eleft=>?_;subst eleft;refine Zc (ff (thn (tests true hT) fun ok s9 hz=>xA hz fun eok H10 F10 J10 s10 R10=>?_));subst eok;refine xg (dfree R10) fun hD10 hF10=>?_;have R10':=R9.there R10;rw [if_pos rfl];refine Zc (Zc (ff (thn (hE H10 F10 _ s9 σ9 H10 (fun v H11=>∃ F11,Same F10 F11/\ER X.K H10 F10 F11 H11 σ9 ρd/\Den X.K F11 e v) J10 ⟨F10,R10'.here,fun v H11 F11 s11 R11 q11=>⟨F11,s11,R11,q11⟩⟩) fun uv s11 hz=>vA hz fun v H11 J11 r11 F11 sF11 R11 q11=>?_)));have hD11:H11 D=some (.lst ys):=R11.same D _ hD10;have hF11:F11 D=none:=by
     cases z:F11 D with
     | none=>rfl
     | some o=>
      rcases R11.new D o z with w | w
      ·rw [hF10] at w;cases w
      ·rw [hD10] at w;cases w
    have hyl:ys.length=done.length:=dn5.length;have R11':=R10'.there R11;refine Zc (ff (thn (zng _ s11 σ9 H11 (.ref D) [v] (.ref D) [uv] (fun _ H12=>H12=upd H11 D (.lst (ys++[v]))) J11 rfl (.cons r11 .nil) ⟨D,ys,v,rfl,rfl,hD11,by omega,rfl⟩) fun _ s12 hz=>xc hz fun _ H12 J12 _ e12=>?_));subst e12;refine Zg (Zg ⟨rfl,fin (zs:=ys++[v]) (more:=done++[e]) J12 ((R11'.mutF hF11 h0D).fewer hsub) (((sF5.trans sF7).trans s10).trans sF11) hF11 Bz ((((dn5.mono sF7).mono s10).mono sF11).append (DenL.cons q11 DenL.nil)) hleft (by rw [Yy];exact rs5) (by rw [Zq,V9];omega)⟩)
 ·have e:i=items.length:=by omega
  subst e;rw [Bl] at cl5;cases cl5;rw [Wk] at rs5;subst rs5;refine ff (thn (T.done (blk X scope (cloF X.env.cells scope.names []) C N' s3 (upd H1 D (.lst [])) fp) rfl rfl rfl hcalm _ [] s5 σ1 Ha (fun _ _=>False) J5 (fx fr5) tn5 (wk5.2 (Zh _))) fun r s6 hz=>xg hz fun hr J6=>?_);subst hr;refine xa J6.loc fun m hnm _=>?_;refine Zg (kend D C s6 Ha Fa ys m (ykh I3 hfp3 J6) hnm J6.free CX.1 CX.2.1 CX.2.2.1 CX.2.2.2 sF5 ⟨R5.sub,R5.same,R5.base,R5.new,fun j d e=>?_⟩ hFD5 h0D hD5 dn5);refine xa (R1.env j d e) fun v g1 g2=>?_;exact⟨v,g1,g2.mono sF5⟩
theorem ycq {H0 Fc F1:Hp} {ρ:Rho} {σ':L2.St} {RR:Value->Addr->Result->Shared->Prop} {E:Value->Shared->Prop} (I:Inv X pins σ H1 s2) (hcalm:X.calm=true) (T:Turn X.prog X.w X.K tg J fp it tn) (h0:tn 0 s2.heap) (hfp:∀ b∈fp,FpOk X pins H1 b)
  (hk:scope.kind=.function) (hcell:∀ y∈scope.names,y.2 ≠ .cell) (hfree:∀ y∈scope.names,y.2=.free->∃ c,X.env.cells.lookup y.1=some c)
  (R1:ER X.K H0 Fc F1 H1 σ ρ) (hl:σ'.length=N'.length) (hρ:∀ (i:Nat) d,ρ0[i]? = some (some d)->∃ v,σ'[i]? = some (some v)/\Den X.K F1 d v)
  (hv:∀ (i:Nat) (x:Str) (v:V),N'[i]? = some x->σ'[i]? = some (some v)->scope.names.lookup x=some .free/\X.env.kindOf x=some .cell/\∃ j:Nat,X.N[j]? = some x/\σ[j]? = some (some v))
  (wk:Walks X.K F1 J items) (hsz:items.length<=sizeLine) (hres:zcp f items=some res)
  (hblk:∀ (C:Addr) (s₀:Shared) (H₀:Hp) (d:D) (o:Option D),d∈items->f d=some o->∃ ρd,DGe (blk X scope (cloF X.env.cells scope.names []) C N' s₀ H₀ fp) tg d ρ0 ρd/\(∀ (i:Nat) d,ρ0[i]? = some (some d)->ρd[i]? = some (some d)) /\
   (match o with | none=>DTs (blk X scope (cloF X.env.cells scope.names []) C N' s₀ H₀ fp) ifs ρd false | some e=>DTs (blk X scope (cloF X.env.cells scope.names []) C N' s₀ H₀ fp) ifs ρd true/\DF (blk X scope (cloF X.env.cells scope.names []) C N' s₀ H₀ fp) elt ρd e))
  (kend:∀ (D C:Addr) (s5:Shared) (H' F':Hp) (ys:List V) (m:Str->Option Value),Inv X pins σ H' s5->s5.heap.Ns C m->H' C=none->C≠X.env.locals->X.s₀.heap.objs.size<=C->(∀ x c,X.env.cells.lookup x=some c->c≠C)->(∀ p∈X.pn++pins,p.1≠C) ->
   Same F1 F'->ER X.K H0 Fc F' H' σ ρ->F' D=none->H0 D=none->H' D=some (.lst ys)->DenL X.K F' res ys->RR (.ref D) C (.ok .next) s5)
  {D:Addr} {s3:Shared} (I3:Inv X pins σ (upd H1 D (.lst [])) s3) (fo3:∀ b∈fp,∃ o,s3.heap.get? b=some o) (hfp3:∀ b∈fp,FpOk X pins (upd H1 D (.lst [])) b) (tn3:tn 0 s3.heap) (R3:ER X.K H0 Fc F1 (upd H1 D (.lst [])) σ ρ) (hFD:F1 D=none) (h0D:H0 D=none) :
  wpAny (model X.prog X.w) X.A (newFunctionEnv scope X.env.globals (cloF X.env.cells scope.names []) [] X.env.qual none .none (some X.env)) (fun cenv s₄=>
   codeAny (model X.prog X.w) X.A (.compStart (.ListComp elt [⟨tg,iter,ifs,0⟩] scope pos) 0 (.ref it) (.ref D) {cenv with scope:=relabel scope X.env}) (RR (.ref D) cenv.locals) s₄) E s3:=by
 refine wpAny_newFunctionEnv hcell (by intro y hy;simp at hy) (fun h4 hns4 hsb4=>?_) hk;have k4:∀ b o,s3.heap.get? b=some o->h4.get? b=some o:=fun b o e=>hsb4.extBut b o (Z1 (Zo e)) (Zf _ e)
 have J4:=ykg (t':=s3.toks+([]:List (Str×Value)).length) (s':=s3) (N':=N') I3 hk hcell hfree rfl hfp3 fo3 hns4 k4 hl hv;have tn4:tn 0 h4:=T.keep 0 _ _ tn3 fun b hb o e=>k4 b o e
 have CX:s3.heap.objs.size≠X.env.locals/\X.s₀.heap.objs.size<=s3.heap.objs.size/\(∀ x c,X.env.cells.lookup x=some c->c≠s3.heap.objs.size)/\(∀ p∈X.pn++pins,p.1≠s3.heap.objs.size):=by
  refine xt (I3.fpOk (H':=upd H1 D (.lst [])) (b:=s3.heap.objs.size) (Zh _) (I3.hok.fresh (Zh _))) fun _ b1 _ b3 b4 b5=>?_;exact⟨b1,I3.sz,b4,b5⟩
 have loop:=zyc (elt:=elt) (iter:=iter) (pos:=pos) (RR:=RR) (E:=E) I hcalm T h0 hfp hk hcell hfree R1 hl hρ hv wk hsz hres hblk kend I3 fo3 hfp3 rfl J4 tn4 CX ⟨R3.sub,R3.same,R3.base,R3.new,hρ⟩ hFD h0D;exact codeAny_compStart_list loop (T.self _ 0 _ _ _ tn4 loop)
theorem zjv {K:PySem.W.Frag} (hK:K=X.K) {H0 Fc F1:Hp} {ρ:Rho} {σ':L2.St} {RR:Value->Addr->Result->Shared->Prop} {E:Value->Shared->Prop} (I:Inv X pins σ H1 s2) (hcalm:X.calm=true) (T:Turn X.prog X.w X.K tg J fp it tn) (h0:tn 0 s2.heap) (hfp:∀ b∈fp,FpOk X pins H1 b)
  (hk:scope.kind=.function) (hcell:∀ y∈scope.names,y.2 ≠ .cell) (hfree:∀ y∈scope.names,y.2=.free->∃ c,X.env.cells.lookup y.1=some c)
  (R1:ER X.K H0 Fc F1 H1 σ ρ) (hl:σ'.length=N'.length) (hρ:∀ (i:Nat) d,ρ0[i]? = some (some d)->∃ v,σ'[i]? = some (some v)/\Den X.K F1 d v)
  (hv:∀ (i:Nat) (x:Str) (v:V),N'[i]? = some x->σ'[i]? = some (some v)->scope.names.lookup x=some .free/\X.env.kindOf x=some .cell/\∃ j:Nat,X.N[j]? = some x/\σ[j]? = some (some v))
  (wk:Walks X.K F1 J items) (hsz:items.length<=sizeLine) (hres:zcp f items=some res)
  (hblk:∀ (C:Addr) (s₀:Shared) (H₀:Hp) (d:D) (o:Option D),d∈items->f d=some o->∃ ρd,DGe (blk X scope (cloF X.env.cells scope.names []) C N' s₀ H₀ fp) tg d ρ0 ρd/\(∀ (i:Nat) d,ρ0[i]? = some (some d)->ρd[i]? = some (some d)) /\
   (match o with | none=>DTs (blk X scope (cloF X.env.cells scope.names []) C N' s₀ H₀ fp) ifs ρd false | some e=>DTs (blk X scope (cloF X.env.cells scope.names []) C N' s₀ H₀ fp) ifs ρd true/\DF (blk X scope (cloF X.env.cells scope.names []) C N' s₀ H₀ fp) elt ρd e))
  (kend:∀ (D C:Addr) (s5:Shared) (H' F':Hp) (ys:List V) (m:Str->Option Value),Inv X pins σ H' s5->s5.heap.Ns C m->H' C=none->C≠X.env.locals->X.s₀.heap.objs.size<=C->(∀ x c,X.env.cells.lookup x=some c->c≠C)->(∀ p∈X.pn++pins,p.1≠C) ->
   Same F1 F'->ER X.K H0 Fc F' H' σ ρ->F' D=none->H0 D=none->H' D=some (.lst ys)->DenL X.K F' res ys->RR (.ref D) C (.ok .next) s5) :
  wpAny (model X.prog X.w) X.A (newList []) (fun acc s₃=>wpAny (model X.prog X.w) X.A (newFunctionEnv scope X.env.globals (cloF X.env.cells scope.names []) [] X.env.qual none .none (some X.env)) (fun cenv s₄=>
   codeAny (model X.prog X.w) X.A (.compStart (.ListComp elt [⟨tg,iter,ifs,0⟩] scope pos) 0 (.ref it) acc {cenv with scope:=relabel scope X.env}) (RR acc cenv.locals) s₄) E s₃) E s2:=by
 have fo2:∀ b∈fp,∃ o,s2.heap.get? b=some o:=fun b hb=>by
  refine xa (T.obj 0 _ h0 b hb) fun o e _=>?_;exact⟨o,e⟩
 have k3:∀ b o,s2.heap.get? b=some o->(s2.heap.push {cls:=.type "list", data:=.seq ([]:List Value).toArray}).get? b=some o:=fun b o e=>Zf _ e
 refine xj (R1.put (.lst []) (I.hok.fresh (Zh _))) fun R3 hFD h0D=>?_;refine Qx ?_ (by show 0<=sizeLine;exact Ya _);exact ycq (elt:=elt) (iter:=iter) (pos:=pos) (RR:=RR) I hcalm T h0 hfp hk hcell hfree R1 hl hρ hv wk hsz hres hblk kend (L2.Inv.lnew (its:=[]) (t':=s2.toks) I .nil (Ya _)) (fun b hb=>let ⟨o,e⟩:=fo2 b hb;⟨o,k3 b o e⟩)
  (fun b hb=>⟨by rw [B3 (by refine xb (fo2 b hb) fun o e=>?_;exact Z1 (Zo e))];exact (hfp b hb).1,(hfp b hb).2⟩) (T.keep 0 _ _ h0 fun b hb o e=>k3 b o e) R3 hFD h0D
end
noncomputable def blkR {α:Type} (k:Nat) (fr:List Nat) (ρ:List (Option α)):List (Option α):=List.replicate k none++fr.map fun i=>(ρ[i]?).bind id
theorem zdp {α:Type} {k:Nat} {fr:List Nat} {ρ:List (Option α)} {i:Nat} {v:α} (h:(blkR k fr ρ)[i]? = some (some v)):∃ m j,i=k+m/\fr[m]? = some j/\ρ[j]? = some (some v):=by
 unfold blkR at h;by_cases hi:i<k
 ·rw [Z2 (by rw [Y5];exact hi),Qf] at h;split at h <;> cases h
 ·rw [Zu (by rw [Y5];omega),Y5,Zk] at h;cases q:fr[i-k]? with
  | none=>rw [q] at h;cases h
  | some j=>
   rw [q] at h;refine⟨i-k,j,by omega,q,?_⟩
   have h2:(ρ[j]?).bind id=some v:=Yh h;cases z:ρ[j]? with
   | none=>rw [z] at h2;cases h2
   | some o=>rw [z] at h2;cases o with
    | none=>cases h2
    | some v'=>exact congrArg some h2
theorem zyp {α:Type} {k:Nat} {fr:List Nat} {ρ:List (Option α)} {m j:Nat} {v:α} (h1:fr[m]? = some j) (h2:ρ[j]? = some (some v)):(blkR k fr ρ)[k+m]? = some (some v):=by
 unfold blkR;rw [Zu (by rw [Y5];omega),Y5,Zk,show k+m-k=m by omega,h1];simp [h2]
theorem zsi {α:Type} {k:Nat} {fr:List Nat} {ρ:List (Option α)}:(blkR k fr ρ).length=k+fr.length:=by
 unfold blkR;rw [Zq,Y5,Zd]
end DL
namespace DL
open PySem L2 PyProof.Rows
section
variable {X:Cx} {e a b:Expr} {es:List Expr} {ρ:Rho} {pos:Pos} {w:W}
theorem yhu:OpR X (binaryOp .Add) (fun x y H Q=>∃ l b xs zs,x=.ref l/\y=.ref b/\SqL X.K H l xs/\SqL X.K H b zs/\xs.length+zs.length<=sizeLine/\∀ p,H p=none->Q (.ref p) (upd H p (.lst (xs++zs)))):=by
 intro pins s σ H x y v u Q I rx ry h;refine vC h fun l b xs zs qz4 qz5 hH hB hz q=>?_;clear h;subst qz4;subst qz5
 cases rx;cases ry;refine xh (I.list hH) fun its r pl z1=>?_;refine xh (I.list hB) fun its2 r2 pl2 z2=>?_;obtain⟨⟨cl1,dd1,dt1,sl1⟩,n,ho,hc,hd0,hd⟩:=pl
 obtain⟨⟨cl2,dd2,dt2,sl2⟩,n2,ho2,hc2,hd02,hd2⟩:=pl2
 cases hc;cases hd;cases hc2;cases hd2
 have l1:=r.length;have l2:=r2.length;have ea:its.toArray++its2.toArray=(its++its2).toArray:=by simp
 refine concat_meets ⟨_,ho,rfl⟩ ⟨_,ho2,rfl⟩ noFill_list_add seq_list_add PySem.F.slot_list_add PySem.F.entry_list_add (PySem.F.args_list_add_2 _ _) (list_addW l b its.toArray its2.toArray n n2 dd1 dd2 sl1 sl2 (by simp only [Zr];omega)) ⟨ho,ho2,?_⟩;rw [ea];exact⟨.ref _,_,I.lnew (t':=s.toks) (r.append r2) (by rw [Zq];omega),rfl,q _ I.fresh⟩
theorem DE.cat {l m:List D} (ha:DF X a ρ (.lst l)) (hb:DF X b ρ (.lst m)) (hl:l.length+m.length<=sizeLine):DE X (.BinOp a .Add b pos) ρ (.new (l++m)):=fun H0 Fc=>
 PE.mono (yhk yhu (ha H0 Fc) (hb H0 Fc)) (zdq fun H F σ v u Q R qv qu k=>by
  refine xc qv.lst fun p xs e1 sq r=>?_;refine xc qu.lst fun p2 ys e2 sq2 r2=>?_;subst e1;subst e2;refine⟨p,p2,xs,ys,rfl,rfl,R.sub.seq sq,R.sub.seq sq2,by rw [r.length,r2.length];exact hl,fun q hq=>?_⟩
  refine xj (R.put (.lst (xs++ys)) hq) fun R4 hF h0=>?_;exact k _ _ _ (Same.refl _) R4 (RW.n hF h0 Bz (r.append r2)))
theorem ycy {l:List D}:zgm X (.type "list") [.lst l] (.new l):=⟨_,zfx,fun H0 Fc H F σ ρ vs Q R q k=>by
 refine xa q.one fun v e q=>?_;refine xc q.lst fun p xs e1 sq r=>?_;rw [e1] at e;refine⟨p,xs,e,.inl (R.sub.seq sq),fun p2 hp=>?_⟩
 refine xj (R.put (.lst xs) hp) fun R4 hF h0=>?_;exact k _ _ _ (Same.refl _) R4 (RW.n hF h0 Bz r)⟩
theorem zyn {l:List D}:zgm X (.type "list") [.tup l] (.new l):=⟨_,zfx,fun H0 Fc H F σ ρ vs Q R q k=>by
 refine xa q.one fun v e q=>?_;refine xc q.tup fun p xs e1 sq r=>?_;rw [e1] at e;refine⟨p,xs,e,.inr (Same.tup R.sub sq),fun p2 hp=>?_⟩
 refine xj (R.put (.lst xs) hp) fun R4 hF h0=>?_;exact k _ _ _ (Same.refl _) R4 (RW.n hF h0 Bz r)⟩
theorem ykd {i j:Int} (hc:X.calm=true):zgm X (.builtin "min") [.int i,.int j] (.val (.int (if j<i then j else i))):=⟨_,zyj hc,fun H0 Fc H F σ ρ vs Q R q k=>by
 refine xc q.two fun v u e q1 q2=>?_;rw [q1.int,q2.int] at e;exact⟨i,j,e,k _ H F (Same.refl _) R RW.int⟩⟩
theorem yke {i j:Int} (hc:X.calm=true):zgm X (.builtin "max") [.int i,.int j] (.val (.int (if i<j then j else i))):=⟨_,zyk hc,fun H0 Fc H F σ ρ vs Q R q k=>by
 refine xc q.two fun v u e q1 q2=>?_;rw [q1.int,q2.int] at e;exact⟨i,j,e,k _ H F (Same.refl _) R RW.int⟩⟩
end
section
variable {X:Cx} {e:Expr} {ρ:RhoS} {pos:Pos}
theorem zez {K:PySem.W.Frag} {H0 Fc F H:Hp} {σ:L2.St} (S:SR K H0 Fc F H σ ρ) {i:Nat} {l:List D} (h:ρ[i]? = some (some (.ow l))):∃ a xs,σ[i]? = some (some (.ref a))/\H a=some (.lst xs)/\DenL K F l xs:=by
 refine xm (S.own i l h) fun a xs p _ _ p3 p4=>?_;exact⟨a,xs,p,p3,p4⟩
theorem DS.app {i:Nat} {x:Str} {l:List D} {d:D} {p ap cp ep:Pos} (hN:X.N[i]? = some x) (hv:Vis X.env.scope x) (hd:(x == ("__debug__" : Str))=false) (hcd:(x == ("__classdict__" : Str))=false) (hr:ρ[i]? = some (some (.ow l))) (he:DE X e (view ρ) (.val d)) (hs:Bs e=true) (hf:lf d=true) (hz:l.length<sizeLine)
  (hline:(ap.endLine == cp.line)=true):DS X (.Expr (.Call (.Attribute (.Name x p) "append" ap) [e] [] cp) ep) ρ (.nx (ρ.set i (some (.ow (l++[d]))))):=fun H0 Fc=>
 PS.mono (zoz (pe_bm Vb slot_list_append F.type_list_append zng (zfr hN hv hd hcd) (zkn (he H0 Fc) zvw (Bx hs)) rfl (by rw [Bx hs];rfl) hline (Bx hs) rfl) rfl) fun D σ H ⟨F,S,k⟩=>by
  obtain⟨a,xs,h1,h2,h3⟩:=zez S hr
  obtain⟨s0,R⟩:=S.borrow
  refine⟨_,h1,.inl ⟨rfl,xs,SqL.of h2⟩,_,R,fun v H2 F2 s2 R2 q=>?_⟩
  obtain⟨F3,s3,S3,q3⟩:=S.back s2 R2 q hf
  obtain⟨a',xs',g1,g2,g3⟩:=zez S3 hr
  rw [h1] at g1;cases g1;have e3:H2 a=some (.lst xs):=by
   have:=s2 a (.lst xs) (by unfold DL.borrow;rw [if_pos ⟨i,l,hr,h1⟩];exact h2)
   exact R2.sub _ _ this
  rw [e3] at g2;cases g2;refine⟨a,xs,v,rfl,rfl,e3,by rw [h3.length];exact hz,k σ _ F3 s3 (S3.mut hr h1 (g3.append (DenL.cons q3 DenL.nil)))⟩
theorem ycl {K:PySem.W.Frag} {F:Hp} {l:List D} {xs:List V} (h:DenL K F l xs) (hl:l≠[]):∃ y,xs[xs.length-1]? = some y/\DenL K F l.dropLast xs.dropLast:=by
 have hn:0<l.length:=List.length_pos_iff.mpr hl;have hd:=h.take (l.length-1);refine⟨xs[xs.length-1]'(by rw [h.length];omega),Ze _,?_⟩
 rw [Qn,Qn,h.length];exact hd
theorem DS.pop {i:Nat} {x:Str} {l:List D} {p ap cp ep:Pos} (hN:X.N[i]? = some x) (hv:Vis X.env.scope x) (hd:(x == ("__debug__" : Str))=false) (hcd:(x == ("__classdict__" : Str))=false) (hr:ρ[i]? = some (some (.ow l))) (hl:l≠[]) (hline:(ap.endLine == cp.line)=true) :
  DS X (.Expr (.Call (.Attribute (.Name x p) "pop" ap) [] [] cp) ep) ρ (.nx (ρ.set i (some (.ow l.dropLast)))):=fun H0 Fc=>
 PS.mono (zoz (yeg Vb F.slot_list_pop F.type_list_pop mt_pop (zfr hN hv hd hcd) rfl hline) rfl) fun D σ H hz=>xa hz fun F S k=>by
  refine xc (zez S hr) fun a xs h1 h2 h3=>?_;refine xa (ycl h3 hl) fun y g1 g2=>?_;exact⟨_,h1,.inl ⟨rfl,xs,SqL.of h2⟩,a,xs,y,rfl,rfl,h2,g1,k σ _ F (Same.refl _) (S.mut hr h1 g2)⟩
theorem DS.clr {i:Nat} {x:Str} {l:List D} {p ap cp ep:Pos} (hN:X.N[i]? = some x) (hv:Vis X.env.scope x) (hd:(x == ("__debug__" : Str))=false) (hcd:(x == ("__classdict__" : Str))=false) (hr:ρ[i]? = some (some (.ow l))) (hline:(ap.endLine == cp.line)=true) :
  DS X (.Expr (.Call (.Attribute (.Name x p) "clear" ap) [] [] cp) ep) ρ (.nx (ρ.set i (some (.ow [])))):=fun H0 Fc=>
 PS.mono (zoz (yeg Vb F.slot_list_clear F.type_list_clear ybj (zfr hN hv hd hcd) rfl hline) rfl) fun D σ H hz=>xa hz fun F S k=>by
  refine xc (zez S hr) fun a xs h1 h2 h3=>?_;exact⟨_,h1,.inl ⟨rfl,xs,SqL.of h2⟩,a,xs,rfl,rfl,h2,k σ _ F (Same.refl _) (S.mut hr h1 DenL.nil)⟩
theorem DenL.set {K:PySem.W.Frag} {F:Hp} {d:D} {v:V} (q:Den K F d v):∀ {l:List D} {xs:List V} (n:Nat),DenL K F l xs->DenL K F (l.set n d) (xs.set n v)
 | [],_,n,h=>by rw [h.inv_nil];simpa using DenL.nil
 | e::l,_,0,h=>by
  refine xc h.inv_cons fun u us z q1 r=>?_;subst z;exact DenL.cons q r
 | e::l,_,n+1,h=>by
  refine xc h.inv_cons fun u us z q1 r=>?_;subst z;exact DenL.cons q1 (DenL.set q n r)
theorem DS.seti {i n:Nat} {x:Str} {l:List D} {d:D} {j:Int} {p sp ep:Pos} {k:Expr} (hN:X.N[i]? = some x) (hv:Vis X.env.scope x) (hd:(x == ("__debug__" : Str))=false) (hcd:(x == ("__classdict__" : Str))=false) (hr:ρ[i]? = some (some (.ow l))) (he:DE X e (view ρ) (.val d)) (hk:DF X k (view ρ) (.int j)) (hf:lf d=true) (hj:ixN l.length j=some n)
  (hsl:zdk k=true) (hsw:swapsWithSole [.Subscript (.Name x p) k sp] e ep.line X.env=pure false) (hw:swappedStores [.Subscript (.Name x p) k sp] e X.env=pure none):DS X (.Assign [.Subscript (.Name x p) k sp] e ep) ρ (.nx (ρ.set i (some (.ow (l.set n d))))):=fun H0 Fc=>
 PS.mono (yee (he H0 Fc) (pg_sub (zfr hN hv hd hcd) (hk H0 Fc) yak (by intro v;cases k <;> first | rfl | (cases hsl;done))) hsw hw rfl) fun D σ H hz=>xa hz fun F S kk=>by
  refine xc (zez S hr) fun a xs h1 h2 h3=>?_;refine xg S.borrow fun s0 R=>?_;have ow:Owned σ ρ a:=⟨i,l,hr,h1⟩;refine⟨_,R,fun v H2 F2 s2 R2 q=>?_⟩
  refine⟨.ref a,h1,F2,R2,fun kv H3 F3 s3 R3 q3=>?_⟩
  refine xh (S.back (s2.trans s3) R3 (show RW X.K H0 F3 H3 (.val d) v from Den.mono s3 d q) hf) fun F4 s4 S4 q4=>?_;refine xc (zez S4 hr) fun a' xs' g1 g2 g3=>?_;rw [h1] at g1;cases g1;have e3:H3 a=some (.lst xs):=by
   have:=(s2.trans s3) a (.lst xs) (by unfold DL.borrow;rw [if_pos ow];exact h2)
   exact R3.sub _ _ this
  rw [e3] at g2;cases g2;refine⟨a,xs,j,n,rfl,q3.int,e3,by rw [h3.length];exact hj,kk σ _ F4 s4 (S4.mut hr h1 (DenL.set q4 n g3))⟩
end
end DL
namespace DL
open PySem
theorem zmv {xs:Array Nat} (hr:xs.toList.Pairwise (· < ·)) {a b x y:Nat} (h:a<b) (ha:xs[a]? = some x) (hb:xs[b]? = some y):x<y:=by
 rw [<- Zy] at ha hb;refine xb (Zl.mp ha) fun la ea=>?_;refine xb (Zl.mp hb) fun lb eb=>?_;have:=K1.mp hr a b la lb h
 rw [ea,eb] at this;exact this
def Cut (xs:Array Nat) (j p:Nat):Prop:=p<=xs.size/\(∀ i x,i<p->xs[i]? = some x->x<j)/\(∀ i x,p<=i->xs[i]? = some x->j<=x)
theorem zln {xs:Array Nat} {j:Nat} (hr:xs.toList.Pairwise (· < ·)):∀ (fuel lo hi:Nat),lo<=hi->hi<=xs.size->hi-lo<=fuel->(∀ i x,i<lo->xs[i]? = some x->x<j)->(∀ i x,hi<=i->xs[i]? = some x->j<=x) ->
  Cut xs j (SetTable.below.go xs j fuel lo hi)
 | 0,lo,hi,h1,h2,h3,h4,h5=>by
  have:lo=hi:=by omega
  subst this;exact⟨h2,h4,h5⟩
 | fuel+1,lo,hi,h1,h2,h3,h4,h5=>by
  unfold SetTable.below.go;by_cases hl:lo<hi
  ·rw [if_pos hl];have hm:(lo+hi)/2<xs.size:=by omega
   have e:xs[(lo+hi)/2]? = some (xs[(lo+hi)/2]):=by simp [hm]
   have eg:xs.getD ((lo+hi)/2) j=xs[(lo+hi)/2]:=by simp [Array.getD,hm]
   dsimp only;rw [eg];by_cases hj:xs[(lo+hi)/2]<j
   ·rw [if_pos hj];refine zln hr fuel _ _ (by omega) h2 (by omega) (fun i x hi' hx=>?_) h5;by_cases hh:i=(lo+hi)/2
    ·subst hh;rw [e] at hx;cases hx;exact hj
    ·exact Nat.lt_trans (zmv hr (by omega) hx e) hj
   ·rw [if_neg hj];refine zln hr fuel _ _ (by omega) (by omega) (by omega) h4 (fun i x hi' hx=>?_);by_cases hh:i=(lo+hi)/2
    ·subst hh;rw [e] at hx;cases hx;omega
    ·have:=zmv hr (show (lo+hi)/2<i by omega) e hx
     omega
  ·rw [if_neg hl];have:lo=hi:=by omega
   subst this;exact⟨h2,h4,h5⟩
theorem zev {xs:Array Nat} {j:Nat} (hr:xs.toList.Pairwise (· < ·)):Cut xs j (SetTable.below xs j):=
 zln hr _ _ _ (Ya _) (Zh _) (by omega) (fun i x h=>by omega) fun i x h e=>by
  have:xs[i]? = none:=by simp [h]
  rw [this] at e;cases e
theorem yde {xs:Array Nat} {i j:Nat} (hr:xs.toList.Pairwise (· < ·)) (h:xs[i]? = some j):SetTable.below xs j=i:=by
 refine xj (zev (j:=j) hr) fun a b c=>?_;have h1:¬ i<SetTable.below xs j:=fun q=>Nat.lt_irrefl _ (b i j q h)
 rcases Wg (SetTable.below xs j) i with q | q
 ·have hi:i<xs.size:=(Yu.mp h).1;have e:xs[SetTable.below xs j]? = some (xs[SetTable.below xs j]'(by omega)):=Zs _;have:=zmv hr q e h
  have:=c _ _ (Zh _) e
  omega
 ·omega
theorem zyx {xs:Array Nat} {j:Nat} (h:j∉xs.toList):(xs[SetTable.below xs j]? == some j)=false:=by
 cases e:xs[SetTable.below xs j]? with
 | none=>rfl
 | some x=>
  by_cases q:x=j
  ·subst q;exact absurd (Zn (by rw [Zy];exact e)) h
  ·simpa using q
theorem zbh {t:SetTable} {i j:Nat} (hr:t.place.toList.Pairwise (· < ·)) (h:t.place[i]? = some j):t.slot j=.live i:=by
 unfold SetTable.slot;rw [yde hr h];simp [h]
theorem zxn (j:Nat):SetTable.has #[] j=false:=rfl
theorem zsx {t:SetTable} {j:Nat} (hd:t.dummies = #[]) (h:j∉t.place.toList):t.slot j=.empty:=by
 unfold SetTable.slot;dsimp only;rw [zyx h,hd,zxn];rfl
theorem yhe {xs:Array Nat} {j:Nat} (hr:xs.toList.Pairwise (· < ·)) (h:j∉xs.toList):(SetTable.insertAt xs (SetTable.below xs j) j).toList.Pairwise (· < ·):=by
 refine xj (zev (j:=j) hr) fun a b c=>?_;rw [U8];have hr':=hr;rw [<- Kj (SetTable.below xs j) xs.toList,Gg] at hr';rw [Gg,Wj];have h1:∀ x∈xs.toList.take (SetTable.below xs j),x<j:=fun x hx=>by
  refine xb (Yg hx) fun i hi=>?_;rw [Gy] at hi;split at hi
  ·rename_i q;exact b i x q (by rw [<- Zy];exact hi)
  ·cases hi
 have h2:∀ x∈xs.toList.drop (SetTable.below xs j),j<x:=fun x hx=>by
  refine xb (Yg hx) fun i hi=>?_;rw [Ku] at hi;have:=c (SetTable.below xs j+i) x (by omega) (by rw [<- Zy];exact hi)
  have:x≠j:=fun e=>h (by rw [<- e];exact J0 hx)
  omega
 refine⟨hr'.1,⟨h2,hr'.2.1⟩,fun x hx y hy=>?_⟩
 rcases Zi.mp hy with e | hy
 ·rw [e];exact h1 x hx
 ·exact Nat.lt_trans (h1 x hx) (h2 y hy)
noncomputable def zsu (mask:Nat) (p:SetTable.Probe):SetTable.Probe:=
 if p.more > 0 then {p with j:=p.j+1,more:=p.more-1} else
 {p with j:=(SetTable.leap mask p.i p.perturb).1,more:=SetTable.runEnd mask (SetTable.leap mask p.i p.perturb).1-(SetTable.leap mask p.i p.perturb).1,i:=(SetTable.leap mask p.i p.perturb).1,perturb:=(SetTable.leap mask p.i p.perturb).2}
noncomputable def ztc (mask i p:Nat):SetTable.Probe:={j:=i,more:=SetTable.runEnd mask i-i,i:=i,perturb:=p,dummy:=none}
noncomputable def way (mask:Nat) (h:Int):Nat->SetTable.Probe
 | 0=>ztc mask (SetTable.bits h%(mask+1)) (SetTable.bits h)
 | n+1=>zsu mask (way mask h n)
noncomputable def lp (mask:Nat) (h:Int):Nat->Nat×Nat
 | 0=>(SetTable.bits h%(mask+1),SetTable.bits h)
 | l+1=>SetTable.leap mask (lp mask h l).1 (lp mask h l).2
theorem zeg {mask i:Nat} (h:i<=mask):SetTable.runEnd mask i<=mask/\SetTable.runEnd mask i-i<=9/\i<=SetTable.runEnd mask i:=by
 unfold SetTable.runEnd;split <;> omega
theorem zxd (mask i p:Nat):(SetTable.leap mask i p).1<=mask:=by
 unfold SetTable.leap;exact Bh (Qi _ (Ge _))
theorem ybn (mask:Nat) (h:Int):∀ l,(lp mask h l).1<=mask
 | 0=>Bh (Qi _ (Ge _))
 | l+1=>zxd _ _ _
theorem zua (mask:Nat) (h:Int):∀ n,(way mask h n).j+(way mask h n).more<=mask/\(way mask h n).dummy=none
 | 0=>by
  have:=zeg (ybn mask h 0)
  exact⟨show (lp mask h 0).1+(SetTable.runEnd mask (lp mask h 0).1-(lp mask h 0).1)<=mask by omega,rfl⟩
 | n+1=>by
  refine xg (zua mask h n) fun a b=>?_;unfold way zsu;split
  ·exact⟨by dsimp only;omega,b⟩
  ·have:=zeg (zxd mask (way mask h n).i (way mask h n).perturb)
   exact⟨by dsimp only;omega,b⟩
theorem ydq (mask:Nat) (h:Int) (n:Nat):(way mask h n).j<=mask:=by
 have:=(zua mask h n).1
 omega
theorem zop {mask i p n:Nat} {h:Int} (e:way mask h n=ztc mask i p):∀ k,k<=SetTable.runEnd mask i-i->way mask h (n+k)={j:=i+k,more:=SetTable.runEnd mask i-i-k,i:=i,perturb:=p,dummy:=none}
 | 0,_=>e
 | k+1,hk=>by
  have ih:=zop e k (by omega);show zsu mask (way mask h (n+k))=_;rw [ih];unfold zsu;rw [if_pos (by dsimp only;omega)];simp only [Nat.add_assoc,Nat.sub_sub]
theorem zqd {mask i p n:Nat} {h:Int} (e:way mask h n=ztc mask i p):way mask h (n+(SetTable.runEnd mask i-i)+1)=ztc mask (SetTable.leap mask i p).1 (SetTable.leap mask i p).2:=by
 have ih:=zop e _ (Zh _);show zsu mask (way mask h (n+(SetTable.runEnd mask i-i)))=_;rw [ih];unfold zsu;rw [if_neg (by dsimp only;omega)];rfl
theorem zqc (mask:Nat) (h:Int):∀ l,∃ n,n<=10*l/\way mask h n=ztc mask (lp mask h l).1 (lp mask h l).2
 | 0=>⟨0,Zh _,rfl⟩
 | l+1=>by
  refine xa (zqc mask h l) fun n hn e=>?_;have:=zeg (ybn mask h l)
  exact⟨_,by omega,zqd e⟩
noncomputable def orb (m:Nat):Nat->Nat->Nat
 | 0,a=>a
 | t+1,a=>(orb m t a*5+1)%(m+1)
theorem zhu (m:Nat) (s a:Nat):∀ t,orb m (s+t) a=orb m t (orb m s a)
 | 0=>rfl
 | t+1=>by
  show (orb m (s+t) a*5+1)%(m+1)=_;rw [zhu m s a t];rfl
noncomputable def orbL (m:Nat):Nat->Nat->List Nat
 | 0,_=>[]
 | t+1,a=>a::orbL m t ((a*5+1)%(m+1))
theorem ybd (m a:Nat) (t:Nat):orb m (t+1) a=orb m t ((a*5+1)%(m+1)):=by
 rw [U0];exact zhu m 1 a t
theorem zko {m:Nat}:∀ {t a b:Nat},b∈orbL m t a->∃ s,s<t/\orb m s a=b
 | 0,_,_,h=>by cases h
 | t+1,a,b,h=>by
  rcases Zi.mp h with e | h
  ·exact⟨0,Ge _,e.symm⟩
  ·refine xa (zko h) fun s h1 h2=>?_;exact⟨s+1,by omega,by rw [ybd];exact h2⟩
def okM (m:Nat):Prop:=m=7\/m=31\/m=127
noncomputable def memB (b:Nat):List Nat->Bool
 | []=>false
 | x::l=>cond (Nat.beq b x) true (memB b l)
theorem zrf {b:Nat}:∀ {l:List Nat},memB b l=true->b∈l
 | [],h=>by cases h
 | x::l,h=>by
  unfold memB at h;cases e:Nat.beq b x with
  | true=>rw [Nat.eq_of_beq_eq_true e];exact .head _
  | false=>rw [e] at h;exact .tail _ (zrf h)
noncomputable def zha (l:List Nat):Nat->Bool
 | 0=>true
 | n+1=>cond (memB n l) (zha l n) false
theorem zdh {l:List Nat}:∀ {n b:Nat},zha l n=true->b<n->b∈l
 | 0,_,_,h=>by omega
 | n+1,b,h,hb=>by
  unfold zha at h;cases e:memB n l with
  | false=>rw [e] at h;cases h
  | true=>
   rw [e] at h;by_cases q:b=n
   ·subst q;exact zrf e
   ·exact zdh h (by omega)
theorem ybc {m:Nat} (h:okM m):orb m (m+1) 0=0/\zha (orbL m (m+1) 0) (m+1)=true:=by
 rcases h with h | h | h <;> (subst h;exact⟨by decide +kernel,by decide +kernel⟩)
theorem yhr {m a b:Nat} (h:okM m) (ha:a<=m) (hb:b<=m):∃ t,t<=m/\orb m t a=b:=by
 refine xg (ybc h) fun h0 h1=>?_;obtain⟨s,hs,es⟩:=zko (zdh h1 (show a<m+1 by omega))
 obtain⟨t,ht,et⟩:=zko (zdh h1 (show b<m+1 by omega))
 by_cases q:s<=t
 ·refine⟨t-s,by omega,?_⟩
  rw [<- es,<- zhu,show s+(t-s)=t by omega];exact et
 ·refine⟨m+1+t-s,by omega,?_⟩
  rw [<- es,<- zhu,show s+(m+1+t-s)=m+1+t by omega,zhu,h0];exact et
theorem yet (mask:Nat) (h:Int):∀ l,(lp mask h l).2=SetTable.bits h/32^l
 | 0=>by simp [lp]
 | l+1=>by
  show (lp mask h l).2/32=_;rw [yet mask h l,V7,Jt]
theorem yki (h:Int):SetTable.bits h<2^64:=by
 unfold SetTable.bits;have:=Yj h (show (0:Int)<2^64 by decide)
 have:=Yc h (show (2:Int)^64≠0 by decide)
 omega
theorem zwv (mask:Nat) (h:Int):∀ t,(lp mask h (12+t)).1=orb mask t (lp mask h 12).1
 | 0=>rfl
 | t+1=>by
  show (SetTable.leap mask (lp mask h (12+t)).1 (lp mask h (12+t)).2).1=_;have e:(lp mask h (12+t)).2/32=0:=by
   rw [yet,V7];refine Nat.div_eq_of_lt (Zp (yki h) ?_);have h1:(32:Nat)^13<=32^(12+t)*32:=by
    rw [<- Jt];exact Y8 (by decide) (by omega)
   exact Y3 (by decide) h1
  unfold SetTable.leap;rw [e,zwv mask h t];rfl
theorem yeu {m b:Nat} (hm:okM m) (h:Int) (hb:b<=m):∃ l,l<=m+12/\(lp m h l).1=b:=by
 refine xa (yhr hm (ybn m h 12) hb) fun t ht e=>?_;exact⟨12+t,by omega,by rw [zwv];exact e⟩
theorem yft {m b:Nat} (hm:okM m) (h:Int) (hb:b<=m):∃ n,n<=10*(m+12)/\(way m h n).j=b:=by
 refine xa (yeu hm h hb) fun l hl e=>?_;refine xa (zqc m h l) fun n hn e2=>?_;exact⟨n,by omega,by rw [e2];exact e⟩
theorem zrr:∀ {n:Nat} {l:List Nat},(∀ j,j<n->j∈l)->n<=l.length
 | 0,_,_=>Ya _
 | n+1,l,h=>by
  have hn:=h n (Q6 n);have:=zrr (n:=n) (l:=l.erase n) fun j hj=>(List.mem_erase_of_ne (by omega)).mpr (h j (by omega))
  have e:=List.length_erase_of_mem hn;have:0<l.length:=List.length_pos_of_mem hn
  omega
theorem room {l:List Nat} {m:Nat} (h:l.length<=m):∃ j,j<=m/\j∉l:=by
 refine Yn fun q=>?_;have:=zrr (n:=m+1) (l:=l) fun j hj=>Yn fun z=>q ⟨j,by omega,z⟩
 omega
theorem least {P:Nat->Prop}:∀ {n:Nat},P n->∃ m,m<=n/\P m/\∀ k,k<m -> ¬ P k:=by
 intro n;induction n using Nat.strongRecOn with
 | ind n ih=>
  intro h;by_cases q:∃ k,k<n/\P k
  ·refine xa q fun k hk pk=>?_;clear q
   refine xh (ih k hk pk) fun m a b c=>?_;exact⟨m,by omega,b,c⟩
  ·exact⟨n,Zh _,h,fun k hk pk=>q ⟨k,hk,pk⟩⟩
theorem zqr {t:SetTable} {hashAt:Nat->Int} {h:Int} (hd:t.dummies = #[]) (hr:t.place.toList.Pairwise (· < ·)) {n0:Nat} (hstop:(way t.mask h n0).j∉t.place.toList\/∃ i,t.place[i]? = some (way t.mask h n0).j/\hashAt i=h) :
  ∀ (fuel n:Nat),n<=n0->n0-n<fuel->(∀ m,n<=m->m<n0->∃ i:Nat,t.place[i]? = some (way t.mask h m).j) ->
   (∃ m i,n<=m/\m<=n0/\t.place[i]? = some (way t.mask h m).j/\hashAt i=h/\SetTable.probe.go t hashAt h fuel (way t.mask h n)=some (.candidate (way t.mask h m).j i (way t.mask h (m+1)))) \/
   ((way t.mask h n0).j∉t.place.toList/\SetTable.probe.go t hashAt h fuel (way t.mask h n)=some (.empty (way t.mask h n0).j none))
 | 0,n,h1,h2,_=>by omega
 | fuel+1,n,h1,h2,h3=>by
  by_cases hn:n=n0
  ·subst hn;rcases hstop with q | ⟨i,q,e⟩
   ·refine .inr ⟨q,?_⟩;unfold SetTable.probe.go;rw [zsx hd q];dsimp only;rw [(zua t.mask h n).2]
   ·refine .inl ⟨n,i,h1,Zh _,q,e,?_⟩;unfold SetTable.probe.go;rw [zbh hr q];dsimp only;rw [if_pos (by simpa using e)];rfl
  ·refine xb (h3 n (Zh _) (by omega)) fun i q=>?_;by_cases e:hashAt i=h
   ·refine .inl ⟨n,i,Zh _,h1,q,e,?_⟩;unfold SetTable.probe.go;rw [zbh hr q];dsimp only;rw [if_pos (by simpa using e)];rfl
   ·have ih:=zqr hd hr hstop fuel (n+1) (by omega) (by omega) fun m a b=>h3 m (by omega) b
    have e2:SetTable.probe.go t hashAt h (fuel+1) (way t.mask h n)=SetTable.probe.go t hashAt h fuel (way t.mask h (n+1)):=by
     conv=>lhs;unfold SetTable.probe.go
     rw [zbh hr q];dsimp only;rw [if_neg (by simpa using e)];rfl
    rw [e2];rcases ih with⟨m,i',a,b,c,d,f⟩ | ⟨a,b⟩
    ·exact .inl ⟨m,i',by omega,b,c,d,f⟩
    ·exact .inr ⟨a,b⟩
end DL
namespace DL
open PySem
structure TOk (t:SetTable) (es:Array (Int×Value)):Prop where
 mask:okM t.mask
 dum:t.dummies = #[]
 ris:t.place.toList.Pairwise (· < ·)
 size:t.place.size=es.size
 le:∀ j∈t.place.toList,j<=t.mask
 wy:∀ (i:Nat) (h:Int) (v:Value),es[i]? = some (h,v)->∃ n,n<=10*(t.mask+13)/\t.place[i]? = some (DL.way t.mask h n).j/\∀ n',n'<n->(DL.way t.mask h n').j∈t.place.toList
theorem ins_get {α:Type} {l:List α} {p:Nat} {x:α} (hp:p<=l.length) (i:Nat):(l.take p++x::l.drop p)[i]? = if i<p then l[i]? else if i=p then some x else l[i-1]?:=by
 have hlen:(l.take p).length=p:=by rw [W4];omega
 by_cases h1:i<p
 ·rw [if_pos h1,Z2 (by rw [hlen];exact h1),Gy,if_pos h1]
 ·rw [if_neg h1,Zu (by rw [hlen];omega),hlen];by_cases h2:i=p
  ·subst h2;simp
  ·rw [if_neg h2];obtain⟨k,hk⟩:∃ k,i-p=k+1:=⟨i-p-1,by omega⟩
   rw [hk,Kc,Ku];congr 1;omega
theorem zro {α:Type} {l:Array α} {p:Nat} {x:α} (hp:p<=l.size) (i:Nat):(SetTable.insertAt l p x)[i]? = if i<p then l[i]? else if i=p then some x else l[i-1]?:=by
 rw [<- Zy,U8,ins_get (by simpa using hp)];simp only [Zy]
theorem put_eq {t:SetTable} (hd:t.dummies = #[]) (j:Nat):t.put j=({t with place:=SetTable.insertAt t.place (SetTable.below t.place j) j},SetTable.below t.place j):=by
 unfold SetTable.put;dsimp only;rw [hd,zxn];simp only [Zx,if_false]
theorem TOk.put {t:SetTable} {es:Array (Int×Value)} (T:TOk t es) {h:Int} {x:Value} {n:Nat} (hn:n<=10*(t.mask+13)) (hj:(way t.mask h n).j∉t.place.toList) (hb:∀ n',n'<n->(way t.mask h n').j∈t.place.toList) :
  TOk {t with place:=SetTable.insertAt t.place (SetTable.below t.place (way t.mask h n).j) (way t.mask h n).j} (SetTable.insertAt es (SetTable.below t.place (way t.mask h n).j) (h,x)):=by
 have hc:=(zev (j:=(way t.mask h n).j) T.ris).1;have hc2:SetTable.below t.place (way t.mask h n).j<=es.size:=by rw [<- T.size];exact hc
 have hm:∀ y,y∈t.place.toList->y∈(SetTable.insertAt t.place (SetTable.below t.place (way t.mask h n).j) (way t.mask h n).j).toList:=fun y hy=>by
  have:=(Qe t.place (SetTable.below t.place (way t.mask h n).j) (way t.mask h n).j).mem_iff (a:=y)
  rw [this,Kg];exact Qc _ hy
 refine⟨T.mask,T.dum,yhe T.ris hj,?_,fun y hy=>?_,fun i h' v e=>?_⟩
 ·have e1:=(Qe t.place (SetTable.below t.place (way t.mask h n).j) (way t.mask h n).j).length_eq;have e2:=(Qe es (SetTable.below t.place (way t.mask h n).j) (h,x)).length_eq;rw [Z4,Z4,Bn] at e1 e2;rw [e1,e2,T.size]
 ·have:=(Qe t.place (SetTable.below t.place (way t.mask h n).j) (way t.mask h n).j).mem_iff (a:=y)
  rw [this,Kg] at hy;rcases Yw.mp hy with hy | hy
  ·exact T.le y hy
  ·rw [Zt.mp hy];exact ydq _ _ _
 ·rw [zro hc2] at e;dsimp only;rw [zro hc];by_cases h1:i<SetTable.below t.place (way t.mask h n).j
  ·rw [if_pos h1] at e |-;refine xh (T.wy i h' v e) fun n2 a b c=>?_;exact⟨n2,a,b,fun n' q=>hm _ (c n' q)⟩
  ·rw [if_neg h1] at e |-;by_cases h2:i=SetTable.below t.place (way t.mask h n).j
   ·rw [if_pos h2] at e |-;cases e;exact⟨n,hn,rfl,fun n' q=>hm _ (hb n' q)⟩
   ·rw [if_neg h2] at e |-;refine xh (T.wy (i-1) h' v e) fun n2 a b c=>?_;exact⟨n2,a,b,fun n' q=>hm _ (c n' q)⟩
theorem TOk.plain {t:SetTable} {es:Array (Int×Value)} (T:TOk t es) (b:Bool):TOk {t with plain:=b} es:=⟨T.mask,T.dum,T.ris,T.size,T.le,T.wy⟩
theorem TOk.fresh (f m:Nat) (led:Bool):TOk (SetTable.fresh f m led) #[]:=⟨.inl rfl,rfl,by simp [SetTable.fresh],rfl,fun j hj=>by simp [SetTable.fresh] at hj,fun i h v e=>by simp at e⟩
def Own (mask:Nat) (hs:List Int) (owner:Array (Option Nat)) (sl:List Nat):Prop:=
 sl.length=hs.length/\owner.size=mask+1/\(∀ j q:Nat,owner[j]? = some (some q)↔sl[q]? = some j)/\∀ (q:Nat) (h:Int),hs[q]? = some h->∃ n,n<=10*(mask+13)/\sl[q]? = some (way mask h n).j/\∀ n',n'<n->(way mask h n').j∈sl
theorem zxp {owner:Array (Option Nat)} {j:Nat} (hj:j<owner.size) (q:(owner.getD j (some 0)).isNone=false):∃ r,owner[j]? = some (some r):=by
 have e1:owner.getD j (some 0)=owner[j]:=by simp [Array.getD,hj]
 rw [e1] at q;cases z:owner[j] with
 | none=>rw [z] at q;cases q
 | some r=>exact⟨r,by rw [Zs hj,z]⟩
theorem yix {owner:Array (Option Nat)} {j:Nat} (hj:j<owner.size) (q:(owner.getD j (some 0)).isNone=true):owner[j]? = some none:=by
 have e1:owner.getD j (some 0)=owner[j]:=by simp [Array.getD,hj]
 rw [e1] at q;rw [Zs hj];cases z:owner[j] with
 | none=>rfl
 | some r=>rw [z] at q;cases q
theorem ydz {mask n m P R:Nat} {owner:Array (Option Nat)} {w:Nat->Nat} (hz:owner.size=mask+1) (hR:R<=mask) (hP:P<=R) (occ:∀ k,k<=R-P->w (n+k)=P+k) (h5:∀ n',n'<n->∃ r,owner[w n']? = some (some r)) (hm:m<=R+1-P) (c:∀ i,i<m->(owner.getD (P+i) (some 0)).isNone=false) :
  ∀ n',n'<n+m->∃ r,owner[w n']? = some (some r):=fun n' hn'=>by
 by_cases q:n'<n
 ·exact h5 n' q
 ·obtain⟨i,e⟩:∃ i,n'=n+i:=⟨n'-n,by omega⟩
  subst e;have hi:i<m:=by omega
  rw [occ i (by omega)];exact zxp (by omega) (c i hi)
theorem zxq {mask:Nat} {owner:Array (Option Nat)} {h:Int} (hz:owner.size=mask+1) {l0:Nat} (h0:owner[(lp mask h l0).1]? = some none) :
  ∀ (fuel l n:Nat),way mask h n=ztc mask (lp mask h l).1 (lp mask h l).2->n<=10*l->l<=l0->l0-l<fuel->(∀ n',n'<n->∃ r,owner[(way mask h n').j]? = some (some r)) ->
   ∃ n1,n1<=10*l0+9/\SetTable.layClean.free mask owner fuel (lp mask h l).1 (lp mask h l).2=some (way mask h n1).j/\owner[(way mask h n1).j]? = some none/\∀ n',n'<n1->∃ r,owner[(way mask h n').j]? = some (some r)
 | 0,l,n,_,_,h3,h4,_=>by omega
 | fuel+1,l,n,e,h2,h3,h4,h5=>by
  have hre:=zeg (ybn mask h l);have occ:∀ k,k<=SetTable.runEnd mask (lp mask h l).1-(lp mask h l).1->(way mask h (n+k)).j=(lp mask h l).1+k:=fun k hk=>by rw [zop e k hk]
  have nxt:=zqd e;unfold SetTable.layClean.free;cases hf:(List.range (SetTable.runEnd mask (lp mask h l).1+1-(lp mask h l).1)).find? fun k=>(owner.getD ((lp mask h l).1+k) (some 0)).isNone with
  | some k=>
   dsimp only;refine xj (List.find?_range_eq_some.mp hf) fun a b c=>?_;rw [Wi] at b;have hk:k<=SetTable.runEnd mask (lp mask h l).1-(lp mask h l).1:=by omega
   refine⟨n+k,by omega,by rw [occ k hk],by rw [occ k hk];exact yix (by omega) a,ydz hz hre.1 hre.2.2 occ h5 (by omega) fun i hi=>by simpa using c i hi⟩
  | none=>
   dsimp only;have c:=List.find?_range_eq_none.mp hf;have c':∀ i,i<SetTable.runEnd mask (lp mask h l).1+1-(lp mask h l).1->(owner.getD ((lp mask h l).1+i) (some 0)).isNone=false:=fun i hi=>by simpa using c i hi
   have hl:l≠l0:=fun q=>by
    subst q;refine xb (zxp (by omega) (c' 0 (by omega))) fun r hr=>?_;rw [Nat.add_zero,h0] at hr;cases hr
   exact zxq hz h0 fuel (l+1) _ nxt (by omega) (by omega) (by omega) fun n' hn'=>ydz hz hre.1 hre.2.2 occ h5 (Zh _) c' n' (by omega)
noncomputable def zkt (mask:Nat) (acc:Option (Array (Option Nat)×Nat)) (h:Int):Option (Array (Option Nat)×Nat):=do
  let (owner,k) <- acc
  let j <- SetTable.layClean.free mask owner (SetTable.turns mask) (SetTable.bits h%(mask+1)) (SetTable.bits h)
  pure (owner.setIfInBounds j (some k),k+1)
theorem zpj (mask:Nat) (hs:Array Int):SetTable.layClean mask hs=(hs.toList.foldl (zkt mask) (some (Array.replicate (mask+1) none,0))).map (·.1):=by
 rw [Array.foldl_toList];rfl
theorem yba {mask:Nat} (hm:okM mask) {hs:List Int} {owner:Array (Option Nat)} {sl:List Nat} (O:Own mask hs owner sl) (hl:hs.length<=mask) (h:Int) :
  ∃ owner' sl',zkt mask (some (owner,hs.length)) h=some (owner',hs.length+1)/\Own mask (hs++[h]) owner' sl':=by
 refine xk O fun o1 o2 o3 o4=>?_;clear O
 refine xa (room (l:=sl) (m:=mask) (by omega)) fun j0 hj0 hn0=>?_;refine xa (yeu hm h hj0) fun l0 hl0 e0=>?_;have h0:owner[(lp mask h l0).1]? = some none:=by
  rw [e0];have hj':j0<owner.size:=by omega
  rw [Zs hj'];cases z:owner[j0] with
  | none=>rfl
  | some r=>
   have:owner[j0]? = some (some r):=by rw [Zs hj',z]
   exact absurd (Zn ((o3 j0 r).mp this)) hn0
 obtain⟨n1,a1,a2,a3,a4⟩:=zxq o2 h0 (SetTable.turns mask) 0 0 rfl (Zh _) (Ya _) (by unfold SetTable.turns;omega) fun n' q=>by omega
 refine⟨owner.setIfInBounds (way mask h n1).j (some hs.length),sl++[(way mask h n1).j],?_,?_,?_,fun j q=>?_,fun q h' e=>?_⟩
 ·unfold zkt;show (do let j <- SetTable.layClean.free mask owner (SetTable.turns mask) (SetTable.bits h%(mask+1)) (SetTable.bits h);pure (owner.setIfInBounds j (some hs.length),hs.length+1))=_;rw [show SetTable.layClean.free mask owner (SetTable.turns mask) (SetTable.bits h%(mask+1)) (SetTable.bits h)=some (way mask h n1).j from a2];rfl
 ·rw [Zq,Zq,o1];rfl
 ·rw [Array.size_setIfInBounds];exact o2
 ·have hj1:(way mask h n1).j<owner.size:=by have:=ydq mask h n1;omega
  rw [Array.getElem?_setIfInBounds];by_cases q1:(way mask h n1).j=j
  ·subst q1;rw [if_pos rfl,if_pos hj1];constructor
   ·intro e;cases e;rw [<- o1];simp
   ·intro e;by_cases q2:q<sl.length
    ·rw [Z2 q2] at e;have:=(o3 _ q).mpr e
     rw [a3] at this;cases this
    ·have hq:q<(sl++[(way mask h n1).j]).length:=(Zl.mp e).1;rw [Zq] at hq;have:q=sl.length:=by simp at hq;omega
     rw [this,o1]
  ·rw [if_neg q1,o3];by_cases q2:q<sl.length
   ·rw [Z2 q2]
   ·rw [Wr (by omega),Zu (by omega)];constructor
    ·intro e;cases e
    ·intro e;exfalso
     cases z:q-sl.length with
     | zero=>rw [z] at e;simp at e;exact q1 e
     | succ k=>rw [z] at e;simp at e
 ·have mm:∀ y,y∈sl->y∈sl++[(way mask h n1).j]:=fun y hy=>Qc _ hy
  by_cases q2:q<hs.length
  ·rw [Z2 q2] at e;refine xh (o4 q h' e) fun n b1 b2 b3=>?_;exact⟨n,b1,by rw [Z2 (by omega)];exact b2,fun n' q=>mm _ (b3 n' q)⟩
  ·have hq:q<(hs++[h]).length:=(Zl.mp e).1;rw [Zq] at hq;have eq:q=hs.length:=by simp at hq;omega
   subst eq;rw [Zu (Zh _),Js] at e;cases e;refine⟨n1,by omega,?_,fun n' q=>?_⟩
   ·rw [<- o1];simp
   ·refine xb (a4 n' q) fun r hr=>?_;exact mm _ (Zn ((o3 _ r).mp hr))
theorem zvx {mask:Nat} (hm:okM mask):∀ (h2 h1:List Int) (owner:Array (Option Nat)) (sl:List Nat),Own mask h1 owner sl->h1.length+h2.length<=mask ->
  ∃ owner' sl',h2.foldl (zkt mask) (some (owner,h1.length))=some (owner',h1.length+h2.length)/\Own mask (h1++h2) owner' sl'
 | [],h1,owner,sl,O,_=>⟨owner,sl,rfl,by rw [Wk];exact O⟩
 | h::h2,h1,owner,sl,O,hl=>by
  rw [Zj] at hl;refine xi (yba hm O (by omega) h) fun o' s' e O'=>?_;refine xi (zvx hm h2 (h1++[h]) o' s' O' (by rw [Zq];simp;omega)) fun o2 s2 e2 O2=>?_;refine⟨o2,s2,?_,by rw [Yy] at O2;exact O2⟩
  rw [Vg,e];rw [Zq] at e2;rw [show h1.length+[h].length=h1.length+1 from rfl] at e2;rw [e2,Zj];congr 2;omega
theorem yho (mask:Nat):Own mask [] (Array.replicate (mask+1) none) []:=⟨rfl,by simp,fun j q=>by
 rw [Array.getElem?_replicate];constructor
 ·intro e;split at e <;> cases e
 ·intro e;simp at e,fun q h e=>by simp at e⟩
theorem yfd {α β:Type} {f:α->Option β}:∀ {l:List α},(∀ q∈l,∃ e,f q=some e)->∀ i:Nat,(l.filterMap f)[i]? = (l[i]?).bind f
 | [],_,i=>by simp
 | a::l,h,i=>by
  refine xb (h a (.head _)) fun e he=>?_;rw [List.filterMap_cons_some he];cases i with
  | zero=>simp [he]
  | succ i=>
   rw [Kc,Kc];exact yfd (fun q hq=>h q (.tail _ hq)) i
theorem yio {mask finger moves:Nat} {led plain:Bool} (hm:okM mask) {es:Array (Int×Value)} (hl:es.size<=mask) :
  ∃ t' order,SetTable.laid mask finger moves led plain (es.map (·.1))=some (t',order)/\t'.mask=mask/\t'.led=led/\t'.plain=plain/\(order.filterMap (es[·]?)).toList.Perm es.toList/\TOk t' (order.filterMap (es[·]?)):=by
 have hhs:(es.map (·.1)).toList.length=es.size:=by rw [Z4,Array.size_map]
 refine xi (zvx hm (es.map (·.1)).toList [] _ _ (yho mask) (by rw [hhs,Yb];omega)) fun owner sl e1 O=>?_;refine xk O fun o1 o2 o3 o4=>?_;clear O
 rw [Wb] at o1 o4;rw [hhs] at o1;have lc:SetTable.layClean mask (es.map (·.1))=some owner:=by
  rw [zpj];rw [show (some (Array.replicate (mask+1) none,0):Option (Array (Option Nat)×Nat))=some (Array.replicate (mask+1) none,([]:List Int).length) from rfl,e1];rfl
 let L:List (Nat×Nat):=(List.range (mask+1)).filterMap fun j=>(owner.getD j none).map (j,·)
 have hL:∀ j q,(j,q)∈L↔owner[j]? = some (some q):=fun j q=>by
  constructor
  ·intro h;refine xa (Kb.mp h) fun j' hj' e=>?_;refine xa (Zb.mp e) fun q' hq' e=>?_;cases e;have hlt:j<owner.size:=by rw [Wi] at hj';omega
   have e1:owner.getD j none=owner[j]:=by simp [Array.getD,hlt]
   rw [e1] at hq';rw [Zs hlt,hq']
  ·intro h;refine xb (Yu.mp h) fun hlt e=>?_;refine Kb.mpr ⟨j,Wi.mpr (by omega),?_⟩;have e1:owner.getD j none=owner[j]:=by simp [Array.getD,hlt]
   rw [e1,e];rfl
 have hP:L.Pairwise fun a b=>a.1<b.1:=by
  refine List.Pairwise.filterMap (R:=(· < ·)) _ (fun a a' h b hb b' hb'=>?_) List.pairwise_lt_range;refine xa (Zb.mp hb) fun q _ e=>?_;refine xa (Zb.mp hb') fun q' _ e'=>?_;subst e;subst e';exact h
 have hnd:(L.map (·.2)).Nodup:=by
  unfold List.Nodup;rw [Wy];refine List.Pairwise.imp_of_mem (fun {a b} ha hb h e=>?_) hP;obtain⟨a1,a2⟩:=a
  obtain⟨b1,b2⟩:=b
  have e':a2=b2:=e;subst e';have z1:=(o3 _ _).mp ((hL _ _).mp ha);have z2:=(o3 _ _).mp ((hL _ _).mp hb);rw [z1] at z2;cases z2;exact Nat.lt_irrefl _ h
 have hmem:∀ q,q∈L.map (·.2)↔q∈List.range es.size:=fun q=>by
  rw [Wi];constructor
  ·intro h;obtain⟨⟨j,q'⟩,ha,e⟩:=Zz.mp h
   have e':q'=q:=e;subst e';have:=(Zl.mp ((o3 _ _).mp ((hL _ _).mp ha))).1
   omega
  ·intro h;have:sl[q]? = some (sl[q]'(by omega)):=Ze _
   exact Zz.mpr ⟨(_,q),(hL _ _).mpr ((o3 _ _).mpr this),rfl⟩
 have hperm:(L.map (·.2)).Perm (List.range es.size):=(List.perm_ext_iff_of_nodup hnd Bj).mpr hmem;have hall:∀ q∈L.map (·.2),∃ e,(es[·]?) q=some e:=fun q hq=>by
  have:=(hmem q).mp hq
  rw [Wi] at this;exact⟨es[q],Zs this⟩
 have hes:((L.map (·.2)).toArray.filterMap (es[·]?)).toList=(L.map (·.2)).filterMap (es[·]?):=by rw [Array.toList_filterMap]
 have hpe:((L.map (·.2)).toArray.filterMap (es[·]?)).toList.Perm es.toList:=by
  rw [hes];exact (hperm.filterMap _).trans (by rw [filterMap_getElem?_range])
 refine⟨{mask,place:=(L.map (·.1)).toArray,dummies:=#[],finger,led,moves,plain},(L.map (·.2)).toArray,?_,rfl,rfl,rfl,hpe,hm,rfl,?_,?_,fun j hj=>?_,fun i h v e=>?_⟩
 ·unfold SetTable.laid;rw [lc];rfl
 ·show (L.map (·.1)).Pairwise (· < ·);rw [Wy];exact hP
 ·show (L.map (·.1)).toArray.size=_;have:=hpe.length_eq
  rw [Z4,Z4] at this;rw [this,Zr,Zd];have:=hperm.length_eq
  rw [Zd,Kh] at this;exact this
 ·obtain⟨⟨j',q⟩,ha,e⟩:=Zz.mp (show j∈L.map (·.1) from hj)
  have e':j'=j:=e;subst e';have:=(Yu.mp ((hL _ _).mp ha)).1
  show j'<=mask;omega
 ·rw [<- Zy,hes,yfd hall,Zk] at e;cases z:L[i]? with
  | none=>rw [z] at e;cases e
  | some a=>
   obtain⟨j,q⟩:=a
   rw [z] at e;have e':es[q]? = some (h,v):=e;have hj:=(o3 _ _).mp ((hL _ _).mp (Zn z));refine xh (o4 q h (by rw [Zy,Array.getElem?_map,e'];rfl)) fun n b1 b2 b3=>?_;rw [hj] at b2;refine⟨n,b1,?_,fun n' q'=>?_⟩
   ·show (L.map (·.1)).toArray[i]? = _;rw [List.getElem?_toArray,Zk,z];exact congrArg some (Yh b2)
   ·refine xb (Yg (b3 n' q')) fun q2 e2=>?_;show _∈L.map (·.1);exact Zz.mpr ⟨(_,q2),(hL _ _).mpr ((o3 _ _).mpr e2),rfl⟩
end DL
namespace DL
open PySem
section
variable {prog:Program} {w:World} {A:Around} {E:Value->Shared->Prop} {s:Shared}
abbrev IsTK (prog:Program) (w:World) (h:Heap) (k:List Int) (a:Addr):Prop:=IsTupleKey (intKind prog w) h k a
noncomputable abbrev Bu (prog:Program) (w:World) (k:List Int):Int:=tupleKeyHash (intKind prog w) k
noncomputable def ent (prog:Program) (w:World) (x:List Int×Addr):Int×Value:=(Bu prog w x.1,.ref x.2)
theorem items_int {ks:List Int} {vs:List Value} (h:ItemsAre (intKind prog w) ks vs):∀ v∈vs,∃ i t,v=.int i t:=by
 induction h with
 | nil=>intro v hv;cases hv
 | cons h1 _ ih=>
  intro v hv;rcases Zi.mp hv with e | hv
  ·subst e;refine xb (K6 h1) fun t e=>?_;exact⟨_,t,e⟩
  ·exact ih v hv
theorem zxm {k:List Int} {a:Addr} {Q:Bool->Shared->Prop} (hk:IsTK prog w s.heap k a) (h:Q true s):wpAny (model prog w) A (hashByValue 8 (.ref a)) Q E s:=by
 have hT:=hk.typeIs;refine xo hk fun o items n ho hc hd hi=>?_;clear hk
 unfold hashByValue;refine Zc (Qs hT F.slot_tuple_hash.lookup ?_);show wpAny _ _ (do for x in (<- seqItems? (.ref a)).getD #[.ellipsis] do {if !(<- hashByValue 7 x) then return false};return true) Q E s;refine Zc (Q9 ho hd ?_);refine Zc ?_;show wpAny _ _ (forIn items _ _) _ _ s;rw [<- Kt];refine Jz _ (fun rest r s'=>r.1=none/\s'=s/\∀ v∈rest,∃ i t,v=Value.int i t) _ ?_ ?_ _ _ ⟨rfl,rfl,items_int hi⟩
 ·rintro v rest r s' ⟨hr,e,q⟩
  subst e;refine xl (q v (.head _)) fun i t e=>?_;subst e;unfold hashByValue;exact Zc (Zg (Zg ⟨rfl,rfl,fun u hu=>q u (.tail _ hu)⟩))
 ·rintro⟨r1,r2⟩ s' ⟨hr,e,_⟩
  subst e;have hr':r1=none:=hr;subst hr';exact Zg h
theorem zoa {k:List Int} {a:Addr} {Q:Bool->Shared->Prop} (hk:IsTK prog w s.heap k a) (h:Q false s):wpAny (model prog w) A (ofAClassStatement 8 (.ref a)) Q E s:=by
 have hT:=hk.typeIs;refine xo hk fun o items n ho hc hd hi=>?_;clear hk
 unfold ofAClassStatement;refine Zc (Uf hT ?_);show wpAny _ _ (do let underTuple <- (if ("tuple" : String) == "tuple" then pure true else isSubtype (.type "tuple") (.type "tuple"));_) Q E s;rw [if_pos (by decide)];refine Zc (Zg ?_);simp only [Jc,Zx,if_false];refine Zc (Q9 ho hd ?_);dsimp only;refine Zc ?_;show wpAny _ _ (forIn items _ _) _ _ s;rw [<- Kt];refine Jz _ (fun rest r s'=>r.1=none/\s'=s/\∀ v∈rest,∃ i t,v=Value.int i t) _ ?_ ?_ _ _ ⟨rfl,rfl,items_int hi⟩
 ·rintro v rest r s' ⟨hr,e,q⟩
  subst e;refine xl (q v (.head _)) fun i t e=>?_;subst e;unfold ofAClassStatement;exact Zc (Zg (Zg ⟨rfl,rfl,fun u hu=>q u (.tail _ hu)⟩))
 ·rintro⟨r1,r2⟩ s' ⟨hr,e,_⟩
  subst e;have hr':r1=none:=hr;subst hr';exact Zg h
theorem zsz {k:List Int} {a:Addr} {l:List Value} {Q:Bool->Shared->Prop} (hk:IsTK prog w s.heap k a) (hl:∀ v∈l,∃ b k',v=.ref b/\IsTK prog w s.heap k' b) (h:Q false s):wpAny (model prog w) A (searchCouldBeSeen (.ref a) l) Q E s:=by
 unfold searchCouldBeSeen;refine Zc ?_;refine Jz _ (fun rest r s'=>r.1=none/\s'=s/\∀ v∈rest,∃ b k',v=Value.ref b/\IsTK prog w s.heap k' b) _ ?_ ?_ _ _ ⟨rfl,rfl,hl⟩
 ·rintro v rest r s' ⟨hr,e,q⟩
  subst e;refine xi (q v (.head _)) fun b k' e hb=>?_;subst e;have q':=fun u hu=>q u (.tail _ hu)
  dsimp only;split
  ·exact Zg ⟨rfl,rfl,q'⟩
  ·refine Zc (Ba hk ?_);simp only [Jc,Zx,if_false];refine Zc (Ba hb ?_);simp only [Jc,Zx,if_false];refine Zc (zoa hk ?_);simp only [Zx,if_false];refine Zc (zoa hb ?_);simp only [Zx,if_false];exact Zg ⟨rfl,rfl,q'⟩
 ·rintro⟨r1,r2⟩ s' ⟨hr,e,_⟩
  subst e;have hr':r1=none:=hr;subst hr';exact Zg h
def Stop (prog:Program) (w:World) (t:SetTable) (es:Array (Int×Value)) (h:Heap) (k:List Int) (n0:Nat) (r:SetFound):Prop:=
 ((way t.mask (Bu prog w k) n0).j∉t.place.toList/\r=.free (way t.mask (Bu prog w k) n0).j false)\/(∃ (i:Nat) (b:Addr),t.place[i]? = some (way t.mask (Bu prog w k) n0).j/\es[i]? = some (Bu prog w k,.ref b)/\IsTK prog w h k b/\r=.there none)
theorem ztn {t:SetTable} (h:okM t.mask):t.gaveWay=false:=by
 unfold SetTable.gaveWay;rcases h with h | h | h <;> rw [h] <;> rfl
theorem search {a b:Addr} {o:Obj} {es:Array (Int×Value)} {ep:Nat} {t:SetTable} {k:List Int} {n0:Nat} {r:SetFound} (ho:s.heap.get? a=some o) (hd:o.data=.set es ep t) (hf:t.fits es.size=true) (T:TOk t es)
  (hE:∀ (i:Nat) (e:Int×Value),es[i]? = some e->∃ b k,e=(Bu prog w k,Value.ref b)/\IsTK prog w s.heap k b) (hu:A.units<cLine) (hk:IsTK prog w s.heap k b) (hn0:n0<=10*(t.mask+13)) (hS:Stop prog w t es s.heap k n0 r) {Q:SetFound->Shared->Prop} (h:Q r s) :
  ∀ (fuel n:Nat) (st:Option SetTable.Probe),n<=n0->n0-n<fuel->st.getD (t.probeStart (Bu prog w k))=way t.mask (Bu prog w k) n ->
   (∀ m,n<=m->m<n0->∃ (i:Nat) (b:Addr) (k':List Int),t.place[i]? = some (way t.mask (Bu prog w k) m).j/\es[i]? = some (Bu prog w k',.ref b)/\IsTK prog w s.heap k' b/\k'≠k) ->
   wpAny (model prog w) A (setSearchFrom a (.ref b) (Bu prog w k) true fuel st) Q E s
 | 0,n,st,h1,h2,_,_=>by omega
 | fuel+1,n,st,h1,h2,h3,h4=>by
  unfold setSearchFrom;refine Zc (Qw ho hd hf ?_);dsimp only;rw [ztn T.mask];simp only [Zx,if_false];rw [h3];have pg:=zqr (t:=t) (hashAt:=fun i=>(es[i]?.map (·.1)).getD 0) (h:=Bu prog w k) (n0:=n0) T.dum T.ris (by
   rcases hS with⟨q,_⟩ | ⟨i,b,q1,q2,q3,_⟩
   ·exact .inl q
   ·exact .inr ⟨i,q1,by rw [q2];rfl⟩) (10*SetTable.turns t.mask) n h1 (by unfold SetTable.turns;omega) (fun m a b=>by
    refine xn (h4 m a b) fun i _ _ e _=>?_;exact⟨i,e⟩)
  generalize hg:SetTable.probe t _ (Bu prog w k) (way t.mask (Bu prog w k) n)=g;have hg':SetTable.probe.go t (fun i=>(es[i]?.map (·.1)).getD 0) (Bu prog w k) (10*SetTable.turns t.mask) (way t.mask (Bu prog w k) n)=g:=hg;rw [hg'] at pg;rcases pg with⟨m,i,m1,m2,m3,m4,m5⟩ | ⟨m1,m2⟩
  ·rw [m5];dsimp only;have hi:i<es.size:=by rw [<- T.size];exact (Yu.mp m3).1
   have ei:es[i]? = some es[i]:=Zs hi;refine xi (hE i _ ei) fun c k' ec hc=>?_;have seen:∀ {Q':Bool->Shared->Prop},Q' false s->wpAny (model prog w) A (searchCouldBeSeen (.ref b) ((es.filter (·.1 == Bu prog w k)).toList.map (·.2))) Q' E s:=fun hq=>zsz hk (fun v hv=>by
    refine xa (Zz.mp hv) fun e he q=>?_;rw [Array.toList_filter] at he;have he:=(Ji.mp he).1;refine xb (Yg he) fun j hj=>?_;refine xi (hE j e (by rw [<- Zy];exact hj)) fun b' k2 e2 hb'=>?_;subst e2;exact⟨b',k2,q.symm,hb'⟩) hq
   have tail:wpAny (model prog w) A (do
     let some (_,y):=es[i]? | unsupported "internal:set-entry"
     let equal <- holding [y] (eqBool y (.ref b))
     let (es',_,t') <- setState a
     if true && equal then return .there none
     let some same:=t'.sameMemory t.moves t.mask | unsupported "set.changed-during-lookup:is-the-new-block-at-the-old-address"
     let still <- match (if same then t'.slot (way t.mask (Bu prog w k) m).j else .empty) with
      | .live i'=>match es'[i']? with
       | some (_,y')=>do pure (if <- isSame y' y then some i' else none)
       | none=>pure none
      | _=>pure none
     match still with
     | none=>rule "set.search.anew"; setSearchFrom a (.ref b) (Bu prog w k) true fuel none
     | some i'=>if equal then return .there (some i') else setSearchFrom a (.ref b) (Bu prog w k) true fuel (some (way t.mask (Bu prog w k) (m+1)))) Q E s:=by
    rw [ei,ec];dsimp only;refine Zc (Yf (wpAny_eqBool_tuple hu hc hk ?_));refine Zc (Qw ho hd hf ?_);dsimp only;by_cases hkk:k'=k
    ·rw [decide_eq_true hkk];simp only [Ul,if_true];have:r=.there none:=by
      rcases hS with⟨q,_⟩ | ⟨_,_,_,_,_,e⟩
      ·have z:m≠n0:=fun e=>q (by rw [<- e];exact Zn (by rw [Zy];exact m3))
       refine xo (h4 m m1 (by omega)) fun i2 b2 k2 g1 g2 g3 g4=>?_;have e1:=zbh T.ris m3;rw [zbh T.ris g1] at e1;cases e1;rw [ei,ec] at g2;have e5:Value.ref c=Value.ref b2:=congrArg Prod.snd (Yh g2);cases e5;exact absurd ((Ux g3 hc).trans hkk) g4
      ·exact e
     rw [this] at h;exact Zg h
    ·rw [decide_eq_false hkk];simp only [Bool.and_false,Zx,if_false];have sm:t.sameMemory t.moves t.mask=some true:=by unfold SetTable.sameMemory;simp
     rw [sm];dsimp only;rw [if_pos rfl,zbh T.ris m3];dsimp only;rw [ei,ec];dsimp only;refine Zc (wpAny_isSame_ref_self (Zc (Zg ?_)));simp only [if_true];have hm:m≠n0:=fun e=>by
      subst e;rcases hS with⟨q,_⟩ | ⟨i2,b2,q1,q2,q3,_⟩
      ·exact q (Zn (by rw [Zy];exact m3))
      ·have e1:=zbh T.ris m3;rw [zbh T.ris q1] at e1;cases e1;rw [ei,ec] at q2;have e5:Value.ref c=Value.ref b2:=congrArg Prod.snd (Yh q2);cases e5;exact hkk (Ux hc q3)
     exact search ho hd hf T hE hu hk hn0 hS h fuel (m+1) _ (by omega) (by omega) rfl fun m' a b=>h4 m' (by omega) b
   cases hled:t.led with
   | true=>
    simp only [Jc,Zx,if_false];exact tail
   | false=>
    simp only [Ue,if_true];refine Zc (seen ?_);simp only [Zx,if_false];exact tail
  ·rw [m2];dsimp only;have:r=.free (way t.mask (Bu prog w k) n0).j false:=by
    rcases hS with⟨_,e⟩ | ⟨_,_,q,_⟩
    ·exact e
    ·exact absurd (Zn (by rw [Zy];exact q)) m1
   rw [this] at h;exact Zg h
end
end DL
namespace DL
open PySem
section
variable {prog:Program} {w:World} {A:Around} {E:Value->Shared->Prop} {s:Shared}
def SetP (prog:Program) (w:World) (h:Heap) (a:Addr) (led:Bool) (σ:List (List Int×Addr)):Prop:=
 ∃ o es ep t,h.get? a=some o/\o.ExactSet/\o.data=.set es ep t/\TOk t es/\t.plain=true/\t.led=led/\t.place.size*5<t.mask*3/\es.toList.Perm (σ.map (ent prog w))/\(σ.map (·.1)).Nodup/\∀ x∈σ,IsTK prog w h x.1 x.2
noncomputable def addK (σ:List (List Int×Addr)) (k:List Int) (b:Addr):List (List Int×Addr):=if k∈σ.map (·.1) then σ else σ++[(k,b)]
theorem zuu {h h':Heap} {k:List Int} {a b:Addr} {o:Obj} {es ep t} (x:IsTK prog w h k b) (ho:h.get? a=some o) (hd:o.data=.set es ep t) (hs:Heap.SameBut a h h'):IsTK prog w h' k b:=by
 refine xo x fun o' items n ho' hc hd' hi=>?_;clear x
 have hne:b≠a:=fun e=>by
  subst e;rw [ho] at ho';cases ho';rw [hd] at hd';cases hd'
 exact⟨o',items,n,(hs.2 b hne).trans ho',hc,hd',hi⟩
theorem zmg {h:Heap} {a:Addr} {o:Obj} {es es':Array (Int×Value)} {ep:Nat} {t t':SetTable} (ho:h.get? a=some o) (hd:o.data=.set es ep t):(h.update a (Obj.putSet es' t')).get? a=some {o with data:=.set es' (ep+1) t'}:=by
 have:=Yi (Obj.putSet es' t') ho (by rw [putSet_of es' t' hd];rfl)
 rw [putSet_of es' t' hd] at this;exact this
theorem TOk.fits {t:SetTable} {es:Array (Int×Value)} (T:TOk t es) (h:t.place.size<=t.mask):t.fits es.size=true:=by
 unfold SetTable.fits SetTable.fill;rw [T.size,T.dum];rw [T.size] at h;simpa using h
theorem SetP.lt {h:Heap} {a:Addr} {led:Bool} {σ:List (List Int×Addr)} (S:SetP prog w h a led σ):a<h.objs.size:=by
 refine xB S fun o _ _ _ ho _=>?_;clear S
 exact Zo ho
theorem SetP.at {h h':Heap} {a:Addr} {led:Bool} {σ:List (List Int×Addr)} (S:SetP prog w h a led σ) (hk:∀ b o,h.get? b=some o->(b=a\/∃ x∈σ,b=x.2)->h'.get? b=some o):SetP prog w h' a led σ:=by
 refine xH S fun o es ep t ho hx hd T pl ld fw pm nd tk=>?_;clear S
 refine⟨o,es,ep,t,hk a o ho (.inl rfl),hx,hd,T,pl,ld,fw,pm,nd,fun x hx=>?_⟩
 refine xn (tk x hx) fun o' items n ho' r=>?_;exact⟨o',items,n,hk _ _ ho' (.inr ⟨x,hx,rfl⟩),r⟩
theorem yat {a:Addr} {o:Obj} {es:Array (Int×Value)} {ep:Nat} {t:SetTable} {m wanted:Nat} {Q:Unit->Shared->Prop} (ho:s.heap.get? a=some o) (hd:o.data=.set es ep t) (hf:t.fits es.size=true) (hm:okM m) (hw:SetTable.sizeAbove wanted=m+1) (hl:es.size<=m)
  (h:∀ es' t',TOk t' es'->t'.mask=m->t'.led=t.led->t'.plain=t.plain->es'.toList.Perm es.toList->Q () {s with heap:=s.heap.update a (Obj.putSet es' t')}):wpAny (model prog w) A (setRelay a wanted) Q E s:=by
 unfold setRelay;refine Zc (Qw ho hd hf ?_);dsimp only;rw [hw];have hsz:¬ m+1 > sizeLine:=by
  rw [Qj];rcases hm with e | e | e <;> rw [e] <;> decide
 rw [if_neg hsz];unfold SetTable.relaid;rw [hw,Wu];refine vc (yio (finger:=t.finger) (moves:=t.movedTo m) (led:=t.led) (plain:=t.plain) hm hl) fun t' order e1 e2 e3 e4 e5 e6=>?_;rw [e1];have hsame:(order.filterMap (es[·]?)).size=es.size:=by
  have:=e5.length_eq
  rw [Z4,Z4] at this;exact this
 refine Zc (Ky (Q:=fun r s'=>r=(order.filterMap (es[·]?),t')/\s'=s) ?_ (fun r s' hr=>?_) fun _ _ e=>e)
 ·show wpAny _ A (if ((order.filterMap (es[·]?)).size != es.size)=true then (unsupported "internal:set-table-lost-an-element" >>= fun _=>pure (order.filterMap (es[·]?),t')) else pure (order.filterMap (es[·]?),t')) _ _ _;rw [if_neg (by rw [hsame];simp)];exact Zg ⟨rfl,rfl⟩
 ·refine xg hr fun r1 r2=>?_;clear hr
  subst r1;subst r2;refine wpAny_storeSet_of ho hd (h _ _ e6 e2 e3 e4 e5) ?_;rw [hsame,Qj];have:m<=127:=by rcases hm with e | e | e <;> omega
  omega
theorem add_ok {a b:Addr} {k:List Int} {led:Bool} {σ:List (List Int×Addr)} {Q:Bool->Shared->Prop} (hS:SetP prog w s.heap a led σ) (hk:IsTK prog w s.heap k b) (hu:A.units<cLine) (hlen:σ.length<=70)
  (h:∀ r h',Heap.SameBut a s.heap h'->SetP prog w h' a led (addK σ k b)->Q r {s with heap:=h'}):wpAny (model prog w) A (setAddHashed a (.ref b) (Bu prog w k)) Q E s:=by
 refine xH hS fun o es ep t ho hx hd T pl ld fw pm nd tk=>?_;clear hS
 have hfit:=T.fits (by omega);have hel:es.size=σ.length:=by
  have:=pm.length_eq
  rw [Z4,Zd] at this;exact this
 have hE:∀ (i:Nat) (e:Int×Value),es[i]? = some e->∃ b k,e=(Bu prog w k,Value.ref b)/\IsTK prog w s.heap k b/\(k,b)∈σ:=fun i e q=>by
  have:=pm.mem_iff.mp (Zn (by rw [Zy];exact q))
  refine xa (Zz.mp this) fun x hx e2=>?_;exact⟨x.2,x.1,e2.symm,tk x hx,hx⟩
 let P:Nat->Prop:=fun n=>(way t.mask (Bu prog w k) n).j∉t.place.toList\/∃ (i:Nat) (b:Addr),t.place[i]? = some (way t.mask (Bu prog w k) n).j/\es[i]? = some (Bu prog w k,.ref b)/\IsTK prog w s.heap k b
 refine xa (room (l:=t.place.toList) (m:=t.mask) (by rw [Z4];omega)) fun j0 hj0 hjn=>?_;refine xa (yft T.mask (Bu prog w k) hj0) fun n1 hn1 en1=>?_;refine xh (least (P:=P) (n:=n1) (.inl (by rw [en1];exact hjn))) fun n0 l1 l2 l3=>?_;have live:∀ m,m<n0->∃ (i:Nat) (b:Addr) (k':List Int),t.place[i]? = some (way t.mask (Bu prog w k) m).j/\es[i]? = some (Bu prog w k',.ref b)/\IsTK prog w s.heap k' b/\k'≠k:=fun m hm=>by
  have np:=l3 m hm;have hin:(way t.mask (Bu prog w k) m).j∈t.place.toList:=Yn fun q=>np (.inl q)
  refine xb (Yg hin) fun i hi=>?_;rw [Zy] at hi;have hlt:i<es.size:=by rw [<- T.size];exact (Yu.mp hi).1
  refine xc (hE i _ (Zs hlt)) fun b' k' e1 e2 _=>?_;have e3:es[i]? = some (Bu prog w k',Value.ref b'):=by rw [Zs hlt,e1]
  exact⟨i,b',k',hi,e3,e2,fun q=>np (.inr ⟨i,b',hi,by rw [e3,q],by rw [<- q];exact e2⟩)⟩
 have go:∀ r,Stop prog w t es s.heap k n0 r->∀ {Q':SetFound->Shared->Prop},Q' r s->wpAny (model prog w) A (setSearch a (.ref b) (Bu prog w k) true) Q' E s:=fun r hr Q' hq=>by
  unfold setSearch;have hm127:t.mask<=127:=by rcases T.mask with e | e | e <;> omega
  exact search ho hd hfit T (fun i e q=>by
   refine xc (hE i e q) fun b k e1 e2 _=>?_;exact⟨b,k,e1,e2⟩) hu hk (by omega) hr hq 100000 0 none (Ya _) (by omega) rfl fun m _ hm=>live m hm
 unfold setAddHashed;refine Yf ?_;unfold setAddHashedIn;refine Zc (Qw ho hd hfit ?_);dsimp only;rw [if_neg (by simp [byScan,Value.scannable])];by_cases hin:k∈σ.map (·.1)
 ·-- it is there
  have hp:∃ (i:Nat) (b:Addr),t.place[i]? = some (way t.mask (Bu prog w k) n0).j/\es[i]? = some (Bu prog w k,.ref b)/\IsTK prog w s.heap k b:=by
   rcases l2 with q | q
   ·refine xa (Zz.mp hin) fun x hx1 hx2=>?_;have hmem:ent prog w x∈es.toList:=pm.mem_iff.mpr (Zz.mpr ⟨x,hx1,rfl⟩);refine xb (Yg hmem) fun i hi=>?_;rw [Zy] at hi;have hi2:es[i]? = some (Bu prog w k,Value.ref x.2):=by rw [hi];unfold ent;rw [hx2]
    refine xh (T.wy i _ _ hi2) fun n2 w1 w2 w3=>?_;have hle:n0<=n2:=Yn fun z=>l3 n2 (by omega) (.inr ⟨i,x.2,w2,hi2,by rw [<- hx2];exact tk x hx1⟩)
    rcases Wg n0 n2 with z | z
    ·exact absurd (w3 n0 z) q
    ·have:n0=n2:=by omega
     subst this;exact absurd (Zn (by rw [Zy];exact w2)) q
   ·exact q
  refine xc hp fun i b' p1 p2 p3=>?_;clear hp
  refine Zc (go (.there none) (.inr ⟨i,b',p1,p2,p3,rfl⟩) ?_);dsimp only;have e:s={s with heap:=s.heap}:=rfl;rw [e];refine Zg (h _ _ (Heap.SameBut.refl a s.heap) ?_);unfold addK;rw [if_pos hin];exact⟨o,es,ep,t,ho,hx,hd,T,pl,ld,fw,pm,nd,tk⟩
 ·-- it is new
  have hp:(way t.mask (Bu prog w k) n0).j∉t.place.toList:=by
   rcases l2 with q | ⟨i,b',q1,q2,q3⟩
   ·exact q
   ·refine xc (hE i _ q2) fun b2 k2 e1 e2 e3=>?_;have e5:Value.ref b'=Value.ref b2:=congrArg Prod.snd e1;cases e5;rw [Ux q3 e2] at hin;exact absurd (Zz.mpr ⟨_,e3,rfl⟩) hin
  refine Zc (go (.free (way t.mask (Bu prog w k) n0).j false) (.inl ⟨hp,rfl⟩) ?_);dsimp only;refine Zc (Qw ho hd hfit ?_);dsimp only;rw [put_eq T.dum];dsimp only;rw [if_pos pl];refine Zc (zxm hk ?_);simp only [if_true];have T1:=T.put (x:=Value.ref b) (n:=n0) (h:=Bu prog w k) (by omega) hp fun n' hn'=>by
   refine xn (live n' hn') fun i _ _ e _=>?_;exact Zn (by rw [Zy];exact e)
  have pm1:(SetTable.insertAt es (SetTable.below t.place (way t.mask (Bu prog w k) n0).j) (Bu prog w k,Value.ref b)).toList.Perm ((σ++[(k,b)]).map (ent prog w)):=by
   refine (Qe _ _ _).trans ?_;rw [Kg,Yk];exact pm.append_right _
  have nd1:((σ++[(k,b)]).map (·.1)).Nodup:=by
   rw [Yk,Uv];refine⟨nd,by simp,fun x hx y hy=>?_⟩
   have:y=k:=by simpa using hy
   rw [this];exact fun e=>hin (by rw [<- e];exact hx)
  have ak:addK σ k b=σ++[(k,b)]:=if_neg hin;have sz1:(SetTable.insertAt es (SetTable.below t.place (way t.mask (Bu prog w k) n0).j) (Bu prog w k,Value.ref b)).size=σ.length+1:=by
   have:=pm1.length_eq
   rw [Z4,Zd,Zq] at this;exact this
  have hpl:t.place.size=σ.length:=T.size.trans hel;refine Zc (wpAny_storeSet_of ho hd ?_ (by rw [sz1,Qj];omega));have sb1:=Wv s.heap a (Obj.putSet (SetTable.insertAt es (SetTable.below t.place (way t.mask (Bu prog w k) n0).j) (Bu prog w k,Value.ref b)) {t with place:=SetTable.insertAt t.place (SetTable.below t.place (way t.mask (Bu prog w k) n0).j) (way t.mask (Bu prog w k) n0).j});have tk1:∀ {h':Heap},Heap.SameBut a s.heap h'->∀ x∈σ++[(k,b)],IsTK prog w h' x.1 x.2:=fun {h'} sb x hx=>by
   rcases Yw.mp hx with hx | hx
   ·exact zuu (tk x hx) ho hd sb
   ·rw [Zt.mp hx];exact zuu hk ho hd sb
  have g1:=zmg (es':=SetTable.insertAt es (SetTable.below t.place (way t.mask (Bu prog w k) n0).j) (Bu prog w k,Value.ref b)) (t':={t with place:=SetTable.insertAt t.place (SetTable.below t.place (way t.mask (Bu prog w k) n0).j) (way t.mask (Bu prog w k) n0).j}) ho hd;have ps1:(SetTable.insertAt t.place (SetTable.below t.place (way t.mask (Bu prog w k) n0).j) (way t.mask (Bu prog w k) n0).j).size=σ.length+1:=T1.size.trans sz1;have few1:∀ (full:Bool),SetTable.tooFull {t with place:=SetTable.insertAt t.place (SetTable.below t.place (way t.mask (Bu prog w k) n0).j) (way t.mask (Bu prog w k) n0).j}=full->full=decide ((σ.length+1)*5 >= t.mask*3):=fun full e=>by
   rw [<- e];unfold SetTable.tooFull SetTable.fill;dsimp only;rw [ps1,T.dum];rfl
  simp only [Ue,V2];rw [few1 _ rfl];by_cases hfull:(σ.length+1)*5 >= t.mask*3
  ·rw [decide_eq_true hfull];simp only [if_true];obtain⟨m',hm',hw',hl',hf'⟩:∃ m',okM m'/\SetTable.sizeAbove (SetTable.grown (es.size+1))=m'+1/\σ.length+1<=m'/\(σ.length+1)*5<m'*3:=by
    rcases T.mask with e | e | e
    ·have:σ.length=4:=by omega
     rw [hel,this];exact⟨31,.inr (.inl rfl),by decide +kernel,by decide,by decide⟩
    ·have:σ.length=18:=by omega
     rw [hel,this];exact⟨127,.inr (.inr rfl),by decide +kernel,by decide,by decide⟩
    ·omega
   refine Zc (yat g1 rfl (T1.fits ?_) hm' hw' (by rw [sz1];exact hl') fun es' t' T' tm tl tp pe=>?_)
   ·show (SetTable.insertAt t.place (SetTable.below t.place (way t.mask (Bu prog w k) n0).j) (way t.mask (Bu prog w k) n0).j).size<=t.mask;rw [ps1];rcases T.mask with e | e | e <;> omega
   ·have sb2:=sb1.trans (Wv _ a (Obj.putSet es' t'));refine Zg (h _ _ sb2 ?_);rw [ak];refine⟨_,es',ep+1+1,t',zmg g1 rfl,hx,rfl,T',tp.trans pl,tl.trans ld,?_,pe.trans pm1,nd1,tk1 sb2⟩
    have:=pe.length_eq
    rw [Z4,Z4,sz1] at this;rw [T'.size,this,tm];exact hf'
  ·rw [decide_eq_false hfull];simp only [Zx,if_false];refine Zg (h _ _ sb1 ?_);rw [ak];refine⟨_,_,ep+1,_,g1,hx,rfl,T1,pl,ld,?_,pm1,nd1,tk1 sb1⟩
   show (SetTable.insertAt t.place (SetTable.below t.place (way t.mask (Bu prog w k) n0).j) (way t.mask (Bu prog w k) n0).j).size*5<t.mask*3;rw [ps1];omega
end
end DL
namespace DL
open PySem
noncomputable def zbz (xs:List (List Int×Addr)):List (List Int×Addr):=xs.foldl (fun σ x=>addK σ x.1 x.2) []
theorem zpq (xs:List (List Int×Addr)) (x:List Int×Addr):zbz (xs++[x])=addK (zbz xs) x.1 x.2:=by
 unfold zbz;rw [List.foldl_append];rfl
theorem ydo (σ:List (List Int×Addr)) (k:List Int) (b:Addr):(addK σ k b).length<=σ.length+1:=by
 unfold addK;split
 ·omega
 ·rw [Zq];exact Zh _
theorem ydn {σ:List (List Int×Addr)} {k:List Int} {b:Addr} {x:List Int×Addr} (h:x∈addK σ k b):x∈σ\/x=(k,b):=by
 unfold addK at h;split at h
 ·exact .inl h
 ·rcases Yw.mp h with h | h
  ·exact .inl h
  ·exact .inr (Zt.mp h)
theorem zru:∀ (xs σ:List (List Int×Addr)),(xs.foldl (fun σ x=>addK σ x.1 x.2) σ).length<=σ.length+xs.length
 | [],σ=>Zh _
 | x::xs,σ=>by
  have h1:=zru xs (addK σ x.1 x.2);have h2:=ydo σ x.1 x.2;rw [Vg,Zj];omega
theorem zjs (xs:List (List Int×Addr)):(zbz xs).length<=xs.length:=by
 have:=zru xs []
 rw [Yb,Wf] at this;exact this
theorem zrt:∀ {xs σ:List (List Int×Addr)} {x},x∈xs.foldl (fun σ x=>addK σ x.1 x.2) σ->x∈σ\/x∈xs
 | [],_,_,h=>.inl h
 | y::xs,σ,x,h=>by
  rcases zrt (xs:=xs) h with h | h
  ·rcases ydn h with h | h
   ·exact .inl h
   ·exact .inr (by rw [h];exact .head _)
  ·exact .inr (.tail _ h)
theorem zdo {xs:List (List Int×Addr)} {x} (h:x∈zbz xs):x∈xs:=by
 rcases zrt h with h | h
 ·cases h
 ·exact h
section
variable {prog:Program} {w:World} {A:Around} {E:Value->Shared->Prop} {s:Shared}
noncomputable abbrev zbs (led:Bool):Obj:={cls:=.type "set", dict:=none,data:=.set #[] 0 (.fresh 0 0 led)}
theorem SetP.fresh {h:Heap} {a:Addr} {led:Bool} (ho:h.get? a=some (zbs led)):SetP prog w h a led []:=
 ⟨_,_,_,_,ho,⟨rfl,rfl,rfl⟩,rfl,TOk.fresh 0 0 led,rfl,rfl,by show 0*5<7*3;decide,Kd _,Ua,fun x hx=>by cases hx⟩
theorem znw {R:Result->Shared->Prop} {S I l:Addr} {led:Bool} {xs:List (List Int×Addr)} {items:Array Value} (hh:A.in1.handled=none) (hlI:l≠I) (hSI:S≠I) (hSl:S≠l) (hit:items.toList=xs.map fun x=>Value.ref x.2) (hxI:∀ x∈xs,x.2≠I) (hxS:∀ x∈xs,x.2≠S)
  (hu:A.in1.units<cLine) (hn:xs.length<=70):∀ (left done:List (List Int×Addr)) (s:Shared),xs=done++left->s.heap.IsListIter I l done.length->s.heap.IsList l items->(∀ x∈xs,IsTK prog w s.heap x.1 x.2)->SetP prog w s.heap S led (zbz done) ->
   (∀ h' tk,(∀ b o,b≠S->b≠I->s.heap.get? b=some o->h'.get? b=some o)->SetP prog w h' S led (zbz xs)->R (.ok (.ret .none)) {s with heap:=h',toks:=tk}) ->
   codeAny (model prog w) A (.builtin "set.update.loop" ⟨[.ref S,.ref I],[]⟩) R s
 | [],done,s,hx,h1,h2,h3,h4,hR=>by
  rw [Wk] at hx;subst hx;refine We K7 ?_;rw [Yp Qh _];have hsz:items.size=xs.length:=by rw [<- Z4,hit,Zd]
  have W:=Vt (prog:=prog) (w:=w) hh I l hlI items;show wpAny _ A.in1 (pyNext (.ref I) >>= _) _ _ s;refine Zc (W.done s _ _ ⟨by rw [hsz];exact h1,h2⟩ fun h' tk kp=>?_);have kp':∀ b o,b≠I->s.heap.get? b=some o->h'.get? b=some o:=fun b o hb e=>kp b o (by simpa using hb) e
  refine Zg (hR h' tk (fun b o _ hb e=>kp' b o hb e) (h4.at fun b o e hb=>kp' b o ?_ e));rcases hb with e | ⟨x,hx,e⟩
  ·rw [e];exact hSI
  ·rw [e];exact hxI x (zdo hx)
 | x::left,done,s,hx,h1,h2,h3,h4,hR=>by
  refine We K7 ?_;rw [Yp Qh _];have hsz:items.size=xs.length:=by rw [<- Z4,hit,Zd]
  have W:=Vt (prog:=prog) (w:=w) hh I l hlI items;have hlt:done.length<items.size:=by rw [hsz,hx,Zq,Zj];omega
  show wpAny _ A.in1 (pyNext (.ref I) >>= _) _ _ s;refine Zc (W.item done.length s _ _ hlt ⟨h1,h2⟩ fun v h' tk hv st' kp=>?_);have ev:v=.ref x.2:=by
   rw [<- Zy,hit,hx,Yk,Zu (by rw [Zd];exact Zh _),Zd,Js] at hv;exact (Yh hv).symm
  subst ev;have hxm:x∈xs:=by rw [hx];exact Yo _ (.head _)
  have kp':∀ b o,b≠I->s.heap.get? b=some o->h'.get? b=some o:=fun b o hb e=>kp b o (by simpa using hb) e
  have tk':∀ y∈xs,IsTK prog w h' y.1 y.2:=fun y hy=>by
   refine xn (h3 y hy) fun o' its n ho' r=>?_;exact⟨o',its,n,kp' _ _ (hxI y hy) ho',r⟩
  have S':SetP prog w h' S led (zbz done):=h4.at fun b o e hb=>kp' b o (by
   rcases hb with e | ⟨y,hy,e⟩
   ·rw [e];exact hSI
   ·rw [e];exact hxI y (by rw [hx];exact Qc _ (zdo hy))) e
  show wpAny _ A.in1 (holding [Value.ref x.2] (setAdd S (.ref x.2)) >>= _) _ _ _;refine Zc (Yf ?_);unfold setAdd;refine Yf (Zc (wpAny_pyHash_tuple hu (tk' x hxm) ?_));have hl70:(zbz done).length<=70:=by
   have:=zjs done
   rw [hx,Zq] at hn;omega
  refine add_ok (s:={s with heap:=h',toks:=tk+(x.1.length+1)}) S' (tk' x hxm) hu hl70 fun r h2' sb S2=>?_;have hS2:SetP prog w h2' S led (zbz (done++[x])):=by rw [zpq];exact S2
  refine Zg ⟨Wt Qh _,znw hh hlI hSI hSl hit hxI hxS hu hn left (done++[x]) _ (by rw [hx];simp) ?_ ?_ ?_ hS2 fun h3' tk3 kp3 S3=>?_⟩
  ·rw [Zq];exact st'.1.at fun o e=>by
    rw [sb.2 I (Wh hSI)];exact e
  ·exact st'.2.at fun o e=>by
    rw [sb.2 l (Wh hSl)];exact e
  ·intro y hy;refine xn (tk' y hy) fun o' its n ho' r=>?_;exact⟨o',its,n,by rw [sb.2 _ (hxS y hy)];exact ho',r⟩
  ·exact hR h3' tk3 (fun b o hb1 hb2 e=>kp3 b o hb1 hb2 (by rw [sb.2 b hb1];exact kp' b o hb2 e)) S3
theorem zvg (v:Value) {Z:Value->Shared->Prop} (h:Z (.ref s.heap.objs.size) {s with heap:=s.heap.push (zbs (!w.params.followText "set-order"))}) :
  codeAny (model prog w) A (.call (.builtin "set.__new__") ⟨[.type "set", v],[]⟩) (wants Z E) s:=by
 refine codeAny_of_tree ?_;show wpAny _ A.in1 (checkBuiltinCall "set.__new__" ⟨[.type "set", v],[]⟩ >>= fun _=>again (.builtin "set.__new__" ⟨[.type "set", v],[]⟩)) _ _ s;rw [F.newCall_set_1 v];refine Zc (Zg (Zg ⟨Wt F.plain_set_new _,We F.entry_set_new ?_⟩));rw [Yp F.plain_set_new _];have hs:=sub_set_self;unfold Builtin.«set.__new__» Builtin.Frozenset.newClass;cases s;dsimp only;wp_walk
 refine Kq (Zg ?_);simp only [newObj];exact Zc (wpAny_alloc (Zg (Zg h)))
end
end DL
namespace DL
open PySem
section
variable {prog:Program} {w:World} {A:Around} {E:Value->Shared->Prop} {s:Shared}
noncomputable abbrev zfk (w:World):Bool:=!w.params.followText "set-order"
theorem zyh {l:Addr} {items:Array Value} {xs:List (List Int×Addr)} {Q:Value->Shared->Prop} (hh:A.handled=none) (hu:A.units+16<cLine) (hl:s.heap.IsList l items) (hit:items.toList=xs.map fun x=>Value.ref x.2) (htk:∀ x∈xs,IsTK prog w s.heap x.1 x.2) (hn:xs.length<=70)
  (h:∀ h' tk,SetP prog w h' s.heap.objs.size (zfk w) (zbz xs)->(∀ b o,s.heap.get? b=some o->h'.get? b=some o)->Q (.ref s.heap.objs.size) {s with heap:=h',toks:=tk}):wpAny (model prog w) A (call (.type "set") [.ref l]) Q E s:=by
 refine xl Ke.mro fun mc ml mro=>?_;have q1:=Ke.made;have q2:=Ke.sub;have q3:=Ke.notType;have q4:=Ke.canCreate;have q5:=F.typeCall_set_1 (.ref l);refine wpAny_call (codeAny_of_tree ?_);show wpAny _ _ (callAny (.type "set") _) _ _ _;refine Zg ⟨Code.quiet_builtin _ (by decide +kernel),We F.entry_type_call ?_⟩;rw [Around.under_plain (weight_type_call_type "set" [.ref l] []) rfl];repeat (any_goals (first | assumption | wp_step))
 refine Ug (zvg (.ref l) (E:=E) (Z:=fun v s1=>v=.ref s.heap.objs.size/\s1={s with heap:=s.heap.push (zbs (zfk w))}) ⟨rfl,rfl⟩) fun r s1 hr=>?_;cases r with
 | error e=>exact hr
 | ok f=>
  cases f with
  | ret v=>
   refine xg hr fun qz0 qz1=>?_;clear hr;subst qz0;subst qz1
   have gS:(s.heap.push (zbs (zfk w))).get? s.heap.objs.size=some (zbs (zfk w)):=Z3 _ rfl;have tS:Shared.TypeIs {s with heap:=s.heap.push (zbs (zfk w))} (.ref s.heap.objs.size) "set" := ⟨_,gS,rfl⟩;have q6:=Ke.init.lookup;have q7:=Ke.init.bind (.ref s.heap.objs.size);repeat (any_goals (first | assumption | wp_step))
   refine Ug (codeAny_call_builtin (R:=wants (fun r s2=>r=.none/\∃ h' tk,s2={s with heap:=h',toks:=tk}/\SetP prog w h' s.heap.objs.size (zfk w) (zbz xs)/\∀ b o,s.heap.get? b=some o->h'.get? b=some o) E) Ke.init.plain F.entry_set_init (check_set_init_1 tS ?_)) fun r2 s2 hr2=>?_
   ·refine vd hl fun ol hol hcl nl hdl=>?_;clear hl
    obtain⟨oc,od,odt,os⟩:=ol
    dsimp only at hcl hdl;subst hcl;subst hdl;have hlS:l<s.heap.objs.size:=Zo hol;have gl:(s.heap.push (zbs (zfk w))).get? l=some {cls:=.type "list", dict:=od,data:=.seq items nl,slots:=os}:=Zf _ hol;have l1:(s.heap.push (zbs (zfk w))).IsList l items:=⟨_,gl,rfl,nl,rfl⟩;have z1:=F.sub_list_set;have z2:=F.sub_list_frozenset;have z3:(Value.type "list" == Value.type "dict")=false:=by decide
    unfold Builtin.«set.__init__» noKeywords Builtin.Frozenset.updateFrom;generalize hPI:pyIter=PI;wp_walk
    subst hPI;refine Jh l1 (Zc (wpAny_runValue ?_));have hsz:(s.heap.push (zbs (zfk w))).objs.size=s.heap.objs.size+1:=K5 ..;have htlt:∀ x∈xs,x.2<s.heap.objs.size:=fun x hx=>by
     refine xn (htk x hx) fun o' _ _ ho' _=>?_;exact Zo ho'
    refine znw (led:=zfk w) (l:=l) (items:=items) (xs:=xs) (by simp [hh]) (by rw [hsz];exact Z1 (Wo hlS)) (by rw [hsz];exact Z1 (Q6 _)) (Z8 hlS) hit (fun x hx=>by rw [hsz];exact Z1 (Wo (htlt x hx))) (fun x hx=>Z1 (htlt x hx)) (by simp;omega) hn xs [] _ rfl ⟨_,Z3 _ rfl,rfl,rfl⟩ (l1.push _) (fun x hx=>?_) (SetP.fresh (Zf _ gS)) fun h' tk kp S'=>?_
    ·refine xn (htk x hx) fun o' its n ho' r=>?_;exact⟨o',its,n,Zf _ (Zf _ ho'),r⟩
    ·refine Zg ?_;show wpAny _ _ (ret Value.none) _ _ _;refine Zg ⟨rfl,h',tk,rfl,S',fun b o e=>?_⟩;have hb:=Zo e;exact kp b o (Z1 hb) (by rw [hsz];exact Z1 (Wo hb)) (Zf _ (Zf _ e))
   ·cases r2 with
    | error e=>exact hr2
    | ok f2=>
     cases f2 with
     | ret r=>
      refine xA hr2 fun qz0 h' tk qz3 S' kp=>?_;clear hr2;subst qz0;subst qz3
      repeat (any_goals (first | assumption | wp_step))
      exact h _ _ S' kp
     | _=>exact hr2.elim
  | _=>exact hr.elim
end
end DL
namespace DL
open PySem
theorem zjr {α:Type}:∀ {l:List α} {i:Nat} (h:i<l.length),(l[i]::l.eraseIdx i).Perm l
 | [],i,h=>by cases h
 | a::l,0,h=>Kd _
 | a::l,i+1,h=>by
  have ih:=zjr (l:=l) (i:=i) (by simpa using h);rw [V0];exact (List.Perm.swap _ _ _).trans (ih.cons a)
theorem zvr {α:Type} {next:Nat->Nat}:∀ (fuel k:Nat) (left:List α) (out:Array α),left.length=fuel->(pickOrder.go next fuel k left out).toList.Perm (out.toList++left)
 | 0,k,left,out,h=>by
  rw [Vz.mp h,Wk];exact Kd _
 | fuel+1,k,left,out,h=>by
  have hlt:next k%left.length<left.length:=Qi _ (by omega);unfold pickOrder.go;rw [Ze hlt];dsimp only;refine (zvr fuel (k+1) _ _ (by rw [List.length_eraseIdx_of_lt hlt];omega)).trans ?_;rw [Kg,Yy];exact (zjr hlt).append_left _
theorem zvq {α:Type} (next:Nat->Nat) (xs:Array α):(pickOrder next xs).toList.Perm xs.toList:=by
 have:=zvr (next:=next) xs.size 0 xs.toList #[] (by simp)
 simpa [pickOrder] using this
noncomputable def zdr (w:World) (S:Addr) (ep:Nat) (es:Array (Int×Value)):Array (Int×Value):=if w.params.followText "set-order" = true then pickOrder (w.params.setOrder S ep) es else es
theorem zqz (w:World) (S:Addr) (ep:Nat) (es:Array (Int×Value)):(zdr w S ep es).toList.Perm es.toList:=by
 unfold zdr;split
 ·exact zvq _ _
 ·exact Kd _
theorem zgr (w:World) (S:Addr) (ep:Nat) (es:Array (Int×Value)):(zdr w S ep es).size=es.size:=by
 have:=(zqz w S ep es).length_eq
 simpa using this
noncomputable def zbi (w:World) (t:SetTable) (i:Nat):Nat:=if w.params.followText "set-order" = true then 0 else if i=0 then 0 else t.place.getD (i-1) 0+1
theorem ztv {w:World} {t:SetTable} {es:Array (Int×Value)} (T:TOk t es) (hw:¬ w.params.followText "set-order" = true) {i:Nat} (hi:i<=t.place.size):SetTable.below t.place (zbi w t i)=i:=by
 refine xj (zev (j:=zbi w t i) T.ris) fun a b c=>?_;generalize hp:SetTable.below t.place (zbi w t i)=p at a b c;unfold zbi at b c;rw [if_neg hw] at b c;rcases Bg p i with q | q | q
 ·exfalso
  have e:t.place[p]? = some (t.place[p]'(by omega)):=Zs _;have h1:=c p _ (Zh _) e;rw [if_neg (by omega)] at h1;have e2:t.place[i-1]? = some (t.place[i-1]'(by omega)):=Zs _;have e3:t.place.getD (i-1) 0=t.place[i-1]'(by omega):=by simp [Array.getD,show i-1<t.place.size by omega]
  rw [e3] at h1;by_cases z:p=i-1
  ·subst z;omega
  ·have:=zmv T.ris (show p<i-1 by omega) e e2
   omega
 ·exact q
 ·exfalso
  have e:t.place[i]? = some (t.place[i]'(by omega)):=Zs _;have h1:=b i _ q e;by_cases z:i=0
  ·rw [if_pos z] at h1;omega
  ·rw [if_neg z] at h1;have e2:t.place[i-1]? = some (t.place[i-1]'(by omega)):=Zs _;have e3:t.place.getD (i-1) 0=t.place[i-1]'(by omega):=by simp [Array.getD,show i-1<t.place.size by omega]
   rw [e3] at h1;have:=zmv T.ris (show i-1<i by omega) e2 e
   omega
section
variable {prog:Program} {w:World} {A:Around} {E:Value->Shared->Prop} {s:Shared}
structure SetAt (w:World) (h:Heap) (S:Addr) (es:Array (Int×Value)) (ep:Nat) (t:SetTable):Prop where
 ob:∃ o,h.get? S=some o/\o.ExactSet/\o.data=.set es ep t
 ok:TOk t es
 plain:t.plain=true
 led:t.led=zfk w
 few:t.place.size*5<t.mask*3
theorem SetAt.fits {h:Heap} {S:Addr} {es:Array (Int×Value)} {ep:Nat} {t:SetTable} (X:SetAt w h S es ep t):t.fits es.size=true:=X.ok.fits (by have:=X.few;omega)
theorem SetAt.at {h h':Heap} {S:Addr} {es:Array (Int×Value)} {ep:Nat} {t:SetTable} (X:SetAt w h S es ep t) (k:∀ o,h.get? S=some o->h'.get? S=some o):SetAt w h' S es ep t:=by
 obtain⟨⟨o,ho,r⟩,b,c,d,e⟩:=X
 exact⟨⟨o,k o ho,r⟩,b,c,d,e⟩
theorem SetAt.state {S:Addr} {es:Array (Int×Value)} {ep:Nat} {t:SetTable} (X:SetAt w s.heap S es ep t) {Q:(Array (Int×Value)×Nat×SetTable)->Shared->Prop} (h:Q (es,ep,t) s):wpAny (model prog w) A (setState S) Q E s:=by
 refine xh X.ob fun o ho hx hd=>?_;exact Qw ho hd X.fits h
def IsSetIter (h:Heap) (I S:Addr) (sl i n ep:Nat):Prop:=∃ o,h.get? I=some o/\o.cls=.type "set_iterator" /\ o.data=.fields #[.int sl 0,.int i 0,.ref S,.int n 0,.int ep 0]
theorem IsSetIter.typeIs {I S:Addr} {sl i n ep:Nat} (x:IsSetIter s.heap I S sl i n ep):s.TypeIs (.ref I) "set_iterator" := let ⟨o,ho,hc,_⟩:=x;⟨o,ho,hc⟩
theorem slot_sin:Slot "set_iterator" "__next__" "set_iterator.__next__" :=
 .of (owner := "set_iterator") (n := "__next__") (by rw [Ki,Qb];kernel_rfl) (by decide +kernel) (by decide +kernel) (by decide +kernel) (by first | exact .inl (by decide +kernel) | exact .inr (by decide +kernel)) (by rw [Ut];kernel_rfl)
theorem znx:entryFor table "set_iterator.__next__" = some Builtin.«set_iterator.__next__» := entryFor_of_fast (by kernel_rfl)
theorem zsl (a:Value):argsOk "set_iterator.__next__" ⟨[a],[]⟩:=by unfold argsOk;kernel_rfl
theorem zxv:entryFor table "set.__iter__" = some Builtin.«frozenset.__iter__» := entryFor_alias (id' := "frozenset.__iter__") (by kernel_rfl) rfl (by decide +kernel) (by kernel_rfl)
theorem zjm {S:Addr} {es:Array (Int×Value)} {ep i:Nat} {t:SetTable} (X:SetAt w s.heap S es ep t) (hi:i<=es.size) {Q:Option (Value×Nat)->Shared->Prop} (h:Q (((zdr w S ep es)[i]?).map fun e=>(e.2,zbi w t (i+1))) s) :
  wpAny (model prog w) A (setNext S (zbi w t i) i ep) Q E s:=by
 unfold setNext;refine Zc (X.state ?_);dsimp only;unfold setsByText;refine Zc (Zc (Kq (Zg ?_)));show wpAny _ _ (if (w.params.followText "set-order")=true then _ else _) _ _ _;by_cases hw:w.params.followText "set-order" = true
 ·rw [if_pos hw];simp only [bne_self_eq_false,Zx,if_false];unfold setWalk;refine Zc (Zc (X.state ?_));dsimp only;unfold setsByText;refine Zc (Zc (Kq (Zg ?_)));show wpAny _ _ (if (w.params.followText "set-order")=true then _ else _) _ _ _;rw [if_pos hw];refine Zc (Kq (Zg (Zg ?_)));have e1:zdr w S ep es=pickOrder (w.params.setOrder S ep) es:=if_pos hw;have e2:∀ j,zbi w t j=0:=fun j=>if_pos hw
  rw [e1,e2] at h;rw [e2];exact h
 ·rw [if_neg hw];show wpAny _ _ (if (!t.plain && decide (es.size > 1))=true then _ else _) _ _ _;rw [if_neg (by rw [X.plain];simp)];have hled:t.led=true:=by rw [X.led];unfold zfk;simpa using hw
  refine Zc (m:=_) (Ky (Q:=fun _ s'=>s'=s) ?_ (fun _ s' hs'=>?_) fun _ _ e=>e)
  ·show wpAny _ _ (if (!t.led && !es.isEmpty)=true then unsupported "set:maker-not-led" else pure ()) _ _ _;rw [if_neg (by rw [hled];simp)];exact Zg rfl
  ·subst hs';rw [ztv X.ok hw (by rw [X.ok.size];exact hi)];refine Zg ?_;have e1:zdr w S ep es=es:=if_neg hw;rw [e1] at h;cases e:es[i]? with
   | none=>rw [e] at h;exact h
   | some x=>
    rw [e] at h;have hlt:i<es.size:=(Yu.mp e).1;have hlt2:i<t.place.size:=by rw [X.ok.size];exact hlt
    rw [Zs hlt2];have e4:zbi w t (i+1)=t.place[i]+1:=by
     unfold zbi;rw [if_neg hw,if_neg (by omega)];simp [Array.getD,hlt2]
    rw [e4] at h;exact h
theorem zwd {S I:Addr} {es:Array (Int×Value)} {ep i:Nat} {t:SetTable} {x:Value} (X:SetAt w s.heap S es ep t) (hi:IsSetIter s.heap I S (zbi w t i) i es.size ep) (hSI:S≠I) (hx:((zdr w S ep es)[i]?).map (·.2)=some x) {Q:Option Value->Shared->Prop}
  (hQ:∀ h',IsSetIter h' I S (zbi w t (i+1)) (i+1) es.size ep->Heap.SameBut I s.heap h'->Q (some x) {s with heap:=h'}):wpAny (model prog w) A (pyNext (.ref I)) Q E s:=by
 have hlt:i<es.size:=by
  rw [<- zgr w S ep es];refine xa (Zb.mp hx) fun e he _=>?_;exact (Yu.mp he).1
 have hT:=hi.typeIs;refine xh hi fun o ho hc hd=>?_;clear hi
 unfold pyNext;refine Zc (U6 (wpAny_callSpecial?_slot (name:=Str.ofString "__next__") hT slot_sin (Qm slot_sin hT znx ?_ (zsl _))));show wpAny _ _ (fieldsOf (.ref I) >>= _) _ _ s;refine Zc (wpAny_fieldsOf ho hd ?_);show wpAny _ _ (setEntries S >>= _) _ _ s;unfold setEntries;refine Zc (Zc (X.state (Zg ?_)));simp only [bne_self_eq_false,Zx,if_false];refine Zc (zjm (i:=i) X (Kk hlt) ?_);refine xa (Zb.mp hx) fun e he ex=>?_;rw [he];subst ex;dsimp only [Yq];refine Zc (Gc ho hd (by simp) ?_);have g1:=Yi (Obj.mapFields (·.setIfInBounds 0 (rawInt (zbi w t (i+1))))) ho (Gd (Kz hd _));have d1:=Kz hd (·.setIfInBounds 0 (rawInt (zbi w t (i+1))));refine Zc (Gc g1 d1 (by simp) ?_);refine Zg ⟨_,rfl,Zg (hQ _ ?_ ((Wv ..).trans (Wv ..)))⟩;refine⟨_,Yi _ g1 (Gd (Kz d1 _)),(Bf ..).trans ((Bf ..).trans hc),?_⟩
 rw [Kz d1];simp [rawInt]
end
end DL
namespace DL
open PySem
section
variable {prog:Program} {w:World} {A:Around} {E:Value->Shared->Prop} {s:Shared}
theorem ybf {S I:Addr} {es:Array (Int×Value)} {ep:Nat} {t:SetTable} (hh:A.handled=none) (X:SetAt w s.heap S es ep t) (hi:IsSetIter s.heap I S (zbi w t es.size) es.size es.size ep) {Q:Option Value->Shared->Prop}
  (hQ:∀ h',Heap.ExtBut I s.heap h'->Q none {s with heap:=h'}):wpAny (model prog w) A (pyNext (.ref I)) Q E s:=by
 have hT:=hi.typeIs;refine xh hi fun o ho hc hd=>?_;clear hi
 unfold pyNext;refine Zc (U6 (wpAny_callSpecial?_slot (name:=Str.ofString "__next__") hT slot_sin (Qm slot_sin hT znx ?_ (zsl _))));show wpAny _ _ (fieldsOf (.ref I) >>= _) _ _ s;refine Zc (wpAny_fieldsOf ho hd ?_);show wpAny _ _ (setEntries S >>= _) _ _ s;unfold setEntries;refine Zc (Zc (X.state (Zg ?_)));simp only [bne_self_eq_false,Zx,if_false];refine Zc (zjm (i:=es.size) X (Zh _) ?_);have e:(zdr w S ep es)[es.size]? = none:=by
  rw [<- zgr w S ep es];simp
 rw [e];dsimp only [G4];refine Zc (Gc ho hd (by simp) ?_);refine Zc ?_;simp only [newExc,newTuple];refine Zc (Qx ?_ (by size_fits));refine Zc (m:=firstArgMember _ _) (wpAny_of_eq (a:=Value.none) (by first | rfl | (simp only [firstArgMember];rfl)) ?_);refine Qx ?_ (by size_fits);simp only [raiseNew];refine Zc (wpAny_handled ?_);rw [show A.in1.handled=none from hh];refine Zc (Zg (wpAny_throw ?_));refine Zc (Jy (T := "StopIteration") (b:=true) ⟨_,Z3 _ rfl,rfl⟩ isSubtype_stop (Zg (hQ _ ?_)));exact ((Wv ..).extBut.push _).push _
theorem zqk:Slot "set_iterator" "__iter__" "set_iterator.__iter__" :=
 .of (owner := "set_iterator") (n := "__iter__") (by rw [Ki,Qb];kernel_rfl) (by decide +kernel) (by decide +kernel) (by decide +kernel) (by first | exact .inl (by decide +kernel) | exact .inr (by decide +kernel)) (by rw [Ut];kernel_rfl)
theorem zxw:entryFor table "set_iterator.__iter__" = some Builtin.«dict_keyiterator.__iter__» := entryFor_alias (id' := "dict_keyiterator.__iter__") (by kernel_rfl) rfl (by decide +kernel) (by kernel_rfl)
theorem ydm (a:Value):argsOk "set_iterator.__iter__" ⟨[a],[]⟩:=by unfold argsOk;kernel_rfl
theorem zuc (hh:A.handled=none) {S I:Addr} {es:Array (Int×Value)} {ep:Nat} {t:SetTable} (hSI:S≠I) :
  PySem.Walks prog w A I [I,S] [I] es.size (fun i v=>((zdr w S ep es)[i]?).map (·.2)=some v) (fun i h=>SetAt w h S es ep t/\IsSetIter h I S (zbi w t i) i es.size ep) where
 sub:=fun b hb=>by simp at hb;simp [hb]
 frame:=fun i h h' st hk=>by
  refine xC st fun a o ho r=>?_;clear st
  exact⟨a.at fun o e=>hk S (by simp) o e,o,hk I (by simp) o ho,r⟩
 item:=fun i s Q E hi st hQ=>by
  have hlt:i<(zdr w S ep es).size:=by rw [zgr];exact hi
  have hx:((zdr w S ep es)[i]?).map (·.2)=some ((zdr w S ep es)[i].2):=by rw [Zs hlt];rfl
  refine zwd st.1 st.2 hSI hx fun h' it' sb=>?_;exact hQ _ h' s.toks hx ⟨st.1.at fun o e=>(sb.2 S hSI).trans e,it'⟩ fun b o hb e=>(sb.2 b fun q=>hb (by simp [q])).trans e
 done:=fun s Q E st hQ=>ybf hh st.1 st.2 fun h' x=>hQ h' s.toks fun b o hb e=>x b o (fun q=>hb (by simp [q])) e
 self:=fun i s Q E st hQ=>by
  have hT:=st.2.typeIs;refine wpAny_pyIter_slot hT zqk (Qm zqk hT zxw ?_ (ydm _));show wpAny _ _ (ret (.ref I)) _ _ s;exact Zg ⟨_,rfl, "set_iterator", _,hT,slot_sin.lookup,hQ⟩
noncomputable abbrev zbd (S:Addr) (n ep:Nat):Obj:={cls:=.type "set_iterator", data:=.fields #[.int 0 0,.int 0 0,.ref S,.int n 0,.int ep 0]}
theorem ybw {S:Addr} {es:Array (Int×Value)} {ep:Nat} {t:SetTable} (X:SetAt w s.heap S es ep t) {Q:Value->Shared->Prop} (hQ:Q (.ref s.heap.objs.size) {s with heap:=s.heap.push (zbd S es.size ep)}):wpAny (model prog w) A (pyIter (.ref S)) Q E s:=by
 have hT:s.TypeIs (.ref S) "set" := by
  refine xh X.ob fun o ho hx _=>?_;exact⟨o,ho,hx.1⟩
 refine wpAny_pyIter_slot hT F.slot_set_iter (Qm F.slot_set_iter hT zxv ?_ (F.args_set_iter_1 _));show wpAny _ _ (Builtin.Frozenset.sizeOf S >>= _) _ _ s;unfold Builtin.Frozenset.sizeOf setEntries;refine Zc (Zc (Zc (X.state (Zg (Zg ?_)))));unfold setDrawn;refine Zc (Zc (X.state ?_));dsimp only;unfold setsByText;refine Zc (Zc (Kq (Zg ?_)));show wpAny _ _ (pure (!w.params.followText "set-order" && (!t.plain && decide (es.size > 1)))) _ _ _;refine Zg ?_;rw [show (!w.params.followText "set-order" && (!t.plain && decide (es.size > 1)))=false by rw [X.plain];simp];simp only [Zx,if_false];refine Zc (Zg ?_);unfold setEpoch;refine Zc (Zc (X.state (Zg ?_)));refine Zc (Qx (Zg ⟨_,rfl, "set_iterator", _,⟨_,Z3 _ rfl,rfl⟩,slot_sin.lookup,hQ⟩))
theorem ybr {S:Addr} {es:Array (Int×Value)} {ep:Nat} {t:SetTable} (X:SetAt w s.heap S es ep t) {Q:Bool->Shared->Prop} (hQ:Q false s):wpAny (model prog w) A (Builtin.List.listLengthHint (.ref S)) Q E s:=by
 have hT:s.TypeIs (.ref S) "set" := by
  refine xh X.ob fun o ho hx _=>?_;exact⟨o,ho,hx.1⟩
 unfold Builtin.List.listLengthHint;refine Zc (Qs hT F.slot_set_len.lookup ?_);generalize hid:("set.__len__" : String)=id0;wp_delta
 rw [show splitId id0=some ("set", "__len__") from by subst hid;decide +kernel];subst hid;refine Zc (Jy (b:=true) hT (by rw [Ut];kernel_rfl) ?_);refine Zc (Uf hT ?_);exact Zg hQ
theorem zpv {S:Addr} {es:Array (Int×Value)} {ep:Nat} {t:SetTable} {Q:List Value->Shared->Prop} (hh:A.handled=none) (X:SetAt w s.heap S es ep t)
  (hQ:∀ h' tk,s.heap.objs.size<h'.objs.size->(∀ b o,s.heap.get? b=some o->h'.get? b=some o)->Q ((zdr w S ep es).toList.map (·.2)) {s with heap:=h',toks:=tk}):wpAny (model prog w) A (collect (.ref S)) Q E s:=by
 have hSlt:S<s.heap.objs.size:=by
  refine xa X.ob fun o ho _=>?_;exact Zo ho
 unfold collect;refine Zc (wpAny_runValue (We F.entry_proto_collect ?_));rw [Yp F.plain_proto_collect _];show wpAny _ A.in1 (newList [] >>= fun l=>again (.builtin "list.__iadd__" ⟨[l,.ref S],[]⟩)) _ _ s;refine Zc (Qx (Zg ⟨Wt F.plain_list_iadd _,We F.entry_list_iadd ?_⟩));rw [Yp F.plain_list_iadd _];have X1:SetAt w (s.heap.push {cls:=.type "list", data:=.seq ([]:List Value).toArray}) S es ep t:=X.at fun o e=>Zf _ e
 have hT:Shared.TypeIs {s with heap:=s.heap.push {cls:=.type "list", data:=.seq ([]:List Value).toArray} } (.ref S) "set" := by
  refine xh X1.ob fun o ho hx _=>?_;exact⟨o,ho,hx.1⟩
 show wpAny _ A.in1 (Builtin.List.listExtendWith (.ref s.heap.objs.size) (.ref S) (.ref s.heap.objs.size)) _ _ _;unfold Builtin.List.listExtendWith;refine Zc (Uf hT ?_);have n1:Builtin.List.listSameRef (.ref s.heap.objs.size) (.ref S)=false:=by simp [Builtin.List.listSameRef,Z8 hSlt]
 rw [if_neg (by rw [n1];decide)];refine Zc (ybw X1 ?_);have X2:SetAt w ((s.heap.push {cls:=.type "list", data:=.seq ([]:List Value).toArray}).push (zbd S es.size ep)) S es ep t:=X1.at fun o e=>Zf _ e
 refine Zc (Yf (ybr X2 ?_));have hsz:(s.heap.push {cls:=.type "list", data:=.seq ([]:List Value).toArray}).objs.size=s.heap.objs.size+1:=K5 ..;generalize hIa:(s.heap.push {cls:=.type "list", data:=.seq ([]:List Value).toArray}).objs.size=Ia;have hIa':Ia=s.heap.objs.size+1:=hIa.symm.trans hsz;show wpAny _ A.in1 (rule "list.extend.makes-room" >>= fun _=>Builtin.List.listTouch (.ref s.heap.objs.size) >>= fun _=>again (.builtin "list.extend.loop" ⟨[.ref s.heap.objs.size,.ref Ia,.ref s.heap.objs.size],[]⟩)) _ _ _;have g0:((s.heap.push {cls:=.type "list", data:=.seq ([]:List Value).toArray}).push (zbd S es.size ep)).get? s.heap.objs.size=some {cls:=.type "list", data:=.seq ([]:List Value).toArray}:=Zf _ (Z3 _ rfl);have gI:((s.heap.push {cls:=.type "list", data:=.seq ([]:List Value).toArray}).push (zbd S es.size ep)).get? Ia=some (zbd S es.size ep):=by rw [<- hIa];exact Z3 _ rfl
 refine Zc (Vi (Zc ?_));show wpAny _ A.in1 (updateSeq s.heap.objs.size (·.push .none) >>= fun _=>updateSeq s.heap.objs.size (·.pop)) _ _ _;refine Zc (W1 g0 rfl ?_);have g1:=Yi (Obj.mapSeq (·.push Value.none)) g0 rfl;refine W1 g1 rfl ?_;have g2:=Yi (Obj.mapSeq (·.pop)) g1 rfl;generalize hH:((((s.heap.push {cls:=.type "list", data:=.seq ([]:List Value).toArray}).push (zbd S es.size ep)).update s.heap.objs.size (Obj.mapSeq (·.push Value.none))).update s.heap.objs.size (Obj.mapSeq (·.pop)))=hp;rw [hH] at g2;have oth:∀ b o,b≠s.heap.objs.size->((s.heap.push {cls:=.type "list", data:=.seq ([]:List Value).toArray}).push (zbd S es.size ep)).get? b=some o->hp.get? b=some o:=fun b o hb e=>by
  rw [<- hH];exact (Z9 _ _ (Wh hb)).trans ((Z9 _ _ (Wh hb)).trans e)
 have hneI:Ia≠s.heap.objs.size:=by rw [hIa'];exact U9 _
 have hneS:S≠s.heap.objs.size:=Z1 hSlt;have hSI:S≠Ia:=by rw [hIa'];exact Z1 (Wo hSlt)
 have W:=(zuc (prog:=prog) (w:=w) (A:=A.in1) (S:=S) (I:=Ia) (es:=es) (ep:=ep) (t:=t) (by simp [hh]) hSI).toS;have s0:zbi w t 0=0:=by unfold zbi;split <;> rfl
 have hsz63:es.size<=sizeLine:=by
  have h1:=X.few;have h2:=X.ok.size;have h3:t.mask<=127:=by rcases X.ok.mask with e | e | e <;> omega
  rw [Qj];omega
 refine Zg ⟨Wt Wq _,codeAny_extend_loopS W hsz63 s.heap.objs.size (by simp [Wh hneI,Wh hneS]) _ es.size 0 _ _ _ rfl (Ya _) ⟨X2.at fun o e=>oth S o hneS e,_,oth Ia _ hneI gI,rfl,by rw [s0];rfl⟩ g2 (ItemsOf.nil _) fun s' acc' c' hm hS' hacc=>?_⟩;show wpAny _ A (load s.heap.objs.size >>= _) _ _ s';refine Zc (wpAny_load hS' (Zg ?_));obtain⟨h',g',d',tk',os'⟩:=s'
 have eg:g'=s.gens:=hm.gens;have ed:d'=s.drawn:=hm.drawn;have eo:os'=s.os:=hm.os;subst eg;subst ed;subst eo;have ea:acc'.toList=(zdr w S ep es).toList.map (·.2):=by
  refine G7 fun j=>?_;rw [Zk,Zy,Zy];cases z:acc'[j]? with
  | none=>
   have h1:acc'.size<=j:=by simpa using z
   rw [hacc.1] at h1;have h2:(zdr w S ep es)[j]? = none:=by rw [<- zgr w S ep es] at h1;simpa using h1
   rw [h2];rfl
  | some v=>exact (hacc.2 j v z).symm
 rw [ea];refine hQ h' tk' (Zo hS') fun b o e=>?_;have hb:=Zo e;exact hm.heap b o (by
  intro q;rcases Zi.mp q with q | q
  ·exact Z1 hb q
  ·rw [Zt.mp q,hIa'] at hb;exact Nat.lt_irrefl _ (Nat.lt_of_succ_lt hb)) (oth b o (Z1 hb) (Zf _ (Zf _ e)))
end
end DL
namespace DL
open PySem PySem.W PyProof.Rows
structure Ord (N:Nat) (b:Nat->Nat->Bool):Prop where
 tr:∀ i j k,b i j=true->b j k=true->b i k=true
 tot:∀ i j,i<N->j<N->i≠j->b i j=true\/b j i=true
 asy:∀ i j,b i j=true->b j i=true->False
def Arr (N:Nat) (p:Array Nat):Prop:=p.toList.Perm (List.range N)
def Srt (b:Nat->Nat->Bool) (p:Array Nat) (k:Nat):Prop:=∀ i j,i<j->j<k->b (p.getD i 0) (p.getD j 0)=true
section
variable {b:Nat->Nat->Bool} {N:Nat} {p:Array Nat}
theorem Arr.size (h:Arr N p):p.size=N:=by
 have:=h.length_eq
 simpa using this
theorem gd {i:Nat} (h:i<p.size):p.getD i 0=p[i]:=by simp [Array.getD,h]
theorem gd? {q:Array Nat} {i j:Nat} (h:p[i]? = q[j]?):p.getD i 0=q.getD j 0:=by
 have e:∀ (a:Array Nat) (k:Nat),a.getD k 0=(a[k]?).getD 0:=fun a k=>by
  by_cases q:k<a.size
  ·rw [gd q,Zs q];rfl
  ·simp [Array.getD,q]
 rw [e,e,h]
theorem Arr.lt (h:Arr N p) (hN:0<N) (i:Nat):p.getD i 0<N:=by
 by_cases q:i<p.size
 ·rw [gd q];exact Wi.mp (h.mem_iff.mp (Gb.mpr (Array.getElem_mem q)))
 ·rw [show p.getD i 0=0 by simp [Array.getD,q]];exact hN
theorem Arr.inj (h:Arr N p) {i j:Nat} (hi:i<N) (hj:j<N) (e:p.getD i 0=p.getD j 0):i=j:=by
 have nd:p.toList.Nodup:=h.nodup_iff.mpr Bj;have hi':i<p.size:=by rw [h.size];exact hi
 have hj':j<p.size:=by rw [h.size];exact hj
 rw [gd hi',gd hj'] at e;have:=K1.mp nd
 rcases Bg i j with q | q | q
 ·have hh:=this i j hi' hj' q;rw [W9,W9] at hh;exact absurd e hh
 ·exact q
 ·have hh:=this j i hj' hi' q;rw [W9,W9] at hh;exact absurd e.symm hh
theorem Arr.perm {q:Array Nat} (h:Arr N p) (e:q.Perm p):Arr N q:=(Array.perm_iff_toList_perm.mp e).trans h
theorem Srt.more (O:Ord N b) {n:Nat} (h:Srt b p n) (h1:1<=n) (e:b (p.getD (n-1) 0) (p.getD n 0)=true):Srt b p (n+1):=fun i j hij hj=>by
 by_cases q:j<n
 ·exact h i j hij q
 ·have:j=n:=by omega
  subst this;by_cases z:i=j-1
  ·subst z;exact e
  ·exact O.tr _ _ _ (h i (j-1) (by omega) (by omega)) e
theorem Ord.not (O:Ord N b) (A:Arr N p) {i j:Nat} (hi:i<N) (hj:j<N) (ne:i≠j) (h:b (p.getD i 0) (p.getD j 0)=false):b (p.getD j 0) (p.getD i 0)=true:=by
 rcases O.tot (p.getD i 0) (p.getD j 0) (A.lt (by omega) i) (A.lt (by omega) j) (fun e=>ne (A.inj hi hj e)) with q | q
 ·rw [h] at q;cases q
 ·exact q
section
variable {cmp:Nat->Nat->(Bool->Shared->Prop)->Shared->Prop} {s:Shared}
abbrev zpy (N:Nat) (b:Nat->Nat->Bool) (s:Shared) (cmp:Nat->Nat->(Bool->Shared->Prop)->Shared->Prop):Prop:=∀ (i j:Nat) (C:Bool->Shared->Prop),i<N->j<N->C (b i j) s->cmp i j C s
theorem zze (hc:zpy N b s cmp) (O:Ord N b) (A:Arr N p):∀ (f n:Nat) (G:Nat->Shared->Prop),1<=n->n+f<=N->Srt b p n->(∀ m,n<=m->m<=n+f->Srt b p m->(m<n+f->b (p.getD m 0) (p.getD (m-1) 0)=true)->G m s)->(kas_asc p f n).kasWp cmp G s
 | 0,n,G,h1,h2,h3,h4=>h4 n (Zh _) (by omega) h3 fun h=>by omega
 | f+1,n,G,h1,h2,h3,h4=>by
  unfold kas_asc;refine hc _ _ _ (A.lt (by omega) _) (A.lt (by omega) _) ?_;cases e:b (p.getD n 0) (p.getD (n-1) 0) with
  | true=>
   dsimp only;rw [if_pos rfl];exact h4 n (Zh _) (by omega) h3 fun _=>e
  | false=>
   dsimp only;rw [if_neg Zw];exact zze hc O A f (n+1) G (by omega) (by omega) (h3.more O h1 (O.not A (by omega) (by omega) (by omega) e)) fun m a1 a2 a3 a4=>h4 m (by omega) (by omega) a3 fun z=>a4 (by omega)
def Fal (b:Nat->Nat->Bool) (p:Array Nat) (k:Nat):Prop:=∀ i j,i<j->j<k->b (p.getD j 0) (p.getD i 0)=true
theorem Fal.more (O:Ord N b) {n:Nat} (h:Fal b p n) (h1:1<=n) (e:b (p.getD n 0) (p.getD (n-1) 0)=true):Fal b p (n+1):=fun i j hij hj=>by
 by_cases q:j<n
 ·exact h i j hij q
 ·have:j=n:=by omega
  subst this;by_cases z:i=j-1
  ·subst z;exact e
  ·exact O.tr _ _ _ e (h i (j-1) (by omega) (by omega))
theorem zxx (hc:zpy N b s cmp) (O:Ord N b) (A:Arr N p):∀ (f n:Nat) (G:Array Nat×Nat×Nat->Shared->Prop),1<=n->n+f<=N->Fal b p n->(∀ m,n<=m->m<=n+f->Fal b p m->G (p,m,0) s)->(kas_desc f p n 0).kasWp cmp G s
 | 0,n,G,h1,h2,h3,h4=>h4 n (Zh _) (by omega) h3
 | f+1,n,G,h1,h2,h3,h4=>by
  unfold kas_desc;refine hc _ _ _ (A.lt (by omega) _) (A.lt (by omega) _) ?_;cases e:b (p.getD n 0) (p.getD (n-1) 0) with
  | true=>
   dsimp only;rw [if_pos rfl,if_neg (by omega)];exact zxx hc O A f (n+1) G (by omega) (by omega) (h3.more O h1 e) fun m a1 a2 a3=>h4 m (by omega) (by omega) a3
  | false=>
   dsimp only;rw [if_neg Zw];refine hc _ _ _ (A.lt (by omega) _) (A.lt (by omega) _) ?_;dsimp only;rw [O.not A (by omega) (by omega) (by omega) e,if_pos rfl];exact h4 n (Zh _) (by omega) h3
theorem zvk (A:Arr N p) (i j:Nat):Arr N (kas_rev p i j):=A.perm (mirror_perm _ _ _ _)
theorem ygy {n:Nat} (hn:n<=p.size) (h:Fal b p n):Srt b (kas_rev p 0 n) n:=fun i j hij hj=>by
 have e:∀ k,k<n->(kas_rev p 0 n).getD k 0=p.getD (n-1-k) 0:=fun k hk=>by
  unfold kas_rev;refine gd? ?_;rw [getElem?_mirror_all hn,if_pos (by omega),Wf]
 rw [e i (by omega),e j (by omega)];exact h _ _ (by omega) (by omega)
theorem yae (hc:zpy N b s cmp) (O:Ord N b) (A:Arr N p) {n:Nat} {G:Nat×Array Nat->Shared->Prop} (h1:1<=n) (h2:n<=N) (h3:Fal b p n) (h4:∀ m q,Arr N q->1<=m->m<=N->Srt b q m->G (m,q) s):(kas_tail3 n N p).kasWp cmp G s:=by
 unfold kas_tail3;rw [KasT.kasWp_bind];exact zze hc O (zvk A 0 n) (N-n) n _ h1 (by omega) (ygy (by rw [A.size];exact h2) h3) fun m a1 a2 a3 _=>h4 m _ (zvk A 0 n) (by omega) (by omega) a3
theorem yco (hc:zpy N b s cmp) (O:Ord N b) (A:Arr N p) {G:Nat×Array Nat->Shared->Prop} (hN:1<=N) (h4:∀ m q,Arr N q->1<=m->m<=N->Srt b q m->G (m,q) s):(kas_count N p).kasWp cmp G s:=by
 unfold kas_count;rw [KasT.kasWp_bind];refine zze hc O A (N-1) 1 _ (Zh _) (by omega) (fun i j a b=>by omega) fun m a1 a2 a3 a4=>?_;by_cases e1:(m == N)=true
 ·rw [if_pos e1];exact h4 m p A a1 (by omega) a3
 ·rw [if_neg e1];have hm:m<N:=by
   have:m≠N:=fun q=>e1 (by rw [q];exact beq_self_eq_true _)
   omega
  by_cases e2:m > 1
  ·rw [if_pos e2];refine hc _ _ _ (A.lt (by omega) _) (A.lt (by omega) _) ?_;dsimp only;rw [a3 0 (m-1) (by omega) (by omega),if_pos rfl];exact h4 m p A a1 (by omega) a3
  ·rw [if_neg e2];have:m=1:=by omega
   subst this;unfold kas_descPart;rw [KasT.kasWp_bind];refine zxx hc O A (N-(1+1)) (1+1) _ (by omega) (by omega) (fun i j a c=>?_) fun m b1 b2 b3=>?_
   ·have h0:i=0:=by omega
    have h1:j=1:=by omega
    subst h0;subst h1;exact a4 (by omega)
   ·dsimp only;rw [if_neg (by omega)];exact yae hc O A (by omega) (by omega) b3 h4
theorem zkm (hc:zpy N b s cmp) (O:Ord N b) (A:Arr N p) {k:Nat} (hk:k<N) (hs:Srt b p k):∀ (f l r:Nat) (G:Nat->Shared->Prop),l<=r->r<=k->r-l<=f->(∀ i,i<l->b (p.getD k 0) (p.getD i 0)=false)->(∀ i,r<=i->i<k->b (p.getD k 0) (p.getD i 0)=true) ->
   (∀ m,m<=k->(∀ i,i<m->b (p.getD k 0) (p.getD i 0)=false)->(∀ i,m<=i->i<k->b (p.getD k 0) (p.getD i 0)=true)->G m s)->(kas_place p k f l r).kasWp cmp G s
 | 0,l,r,G,h1,h2,h3,h4,h5,h6=>by
  have:l=r:=by omega
  subst this;exact h6 l h2 h4 h5
 | f+1,l,r,G,h1,h2,h3,h4,h5,h6=>by
  unfold kas_place;by_cases q:l >= r
  ·rw [if_pos q];have:l=r:=by omega
   subst this;exact h6 l h2 h4 h5
  ·rw [if_neg q];refine hc _ _ _ (A.lt (by omega) _) (A.lt (by omega) _) ?_;cases e:b (p.getD k 0) (p.getD ((l+r)/2) 0) with
   | true=>
    dsimp only;rw [if_pos rfl];refine zkm hc O A hk hs f l _ G (by omega) (by omega) (by omega) h4 (fun i hi hik=>?_) h6;by_cases z:i=(l+r)/2
    ·subst z;exact e
    ·exact O.tr _ _ _ e (hs _ i (by omega) hik)
   | false=>
    dsimp only;rw [if_neg Zw];refine zkm hc O A hk hs f _ r G (by omega) h2 (by omega) (fun i hi=>?_) h5 h6;by_cases z:i=(l+r)/2
    ·subst z;exact e
    ·cases w:b (p.getD k 0) (p.getD i 0) with
     | false=>rfl
     | true=>
      have:=O.tr _ _ _ w (hs i ((l+r)/2) (by omega) (by omega))
      rw [e] at this;cases this
theorem yjz (O:Ord N b) (A:Arr N p) {k m:Nat} (hk:k<N) (hm:m<=k) (hs:Srt b p k) (h1:∀ i,i<m->b (p.getD k 0) (p.getD i 0)=false) (h2:∀ i,m<=i->i<k->b (p.getD k 0) (p.getD i 0)=true):Srt b (bubble p k (k-m)) (k+1):=by
 have hz:k<p.size:=by rw [A.size];exact hk
 have e:∀ i,(bubble p k (k-m)).getD i 0=p.getD (if i=m then k else if m<i/\i<=k then i-1 else i) 0:=fun i=>by
  refine gd? ?_;rw [getElem?_bubble hz (k-m) (by omega),show k-(k-m)=m by omega];by_cases q:i=m
  ·rw [if_pos q,if_pos q]
  ·rw [if_neg q,if_neg q];by_cases q2:m<i/\i<=k
   ·rw [if_pos q2,if_pos q2]
   ·rw [if_neg q2,if_neg q2]
 intro i j hij hj;rw [e,e];by_cases qi:i=m
 ·rw [if_pos qi,if_neg (by omega),if_pos (by omega)];exact h2 _ (by omega) (by omega)
 ·rw [if_neg qi];by_cases qi2:m<i/\i<=k
  ·rw [if_pos qi2,if_neg (by omega),if_pos (by omega)];exact hs _ _ (by omega) (by omega)
  ·rw [if_neg qi2];by_cases qj:j=m
   ·rw [if_pos qj];exact O.not A hk (by omega) (by omega) (h1 i (by omega))
   ·rw [if_neg qj];by_cases qj2:m<j/\j<=k
    ·rw [if_pos qj2];exact hs _ _ (by omega) (by omega)
    ·rw [if_neg qj2];exact hs _ _ (by omega) (by omega)
theorem yfo (O:Ord N b) (hc:zpy N b s cmp):∀ (f k:Nat) (p:Array Nat) (G:Array Nat->Shared->Prop),Arr N p->k+f=N->Srt b p k->(∀ q,Arr N q->Srt b q N->G q s)->(kas_bin f p k).kasWp cmp G s
 | 0,k,p,G,A,h1,h2,h3=>by
  have:k=N:=by omega
  subst this;exact h3 p A h2
 | f+1,k,p,G,A,h1,h2,h3=>by
  unfold kas_bin;rw [KasT.kasWp_bind];refine zkm hc O A (by omega) h2 k 0 k _ (Ya _) (Zh _) (by omega) (fun i hi=>by omega) (fun i hi hik=>by omega) fun m a1 a2 a3=>?_;exact yfo O hc f (k+1) _ G (A.perm (bubble_perm _ _ _)) (by omega) (yjz O A (by omega) a1 h2 a2 a3) h3
theorem ygl (O:Ord N b) (hc:zpy N b s cmp) (hN:1<=N) {G:Array Nat->Shared->Prop} (h:∀ q,Arr N q->Srt b q N->G q s):(kas_sort N).kasWp cmp G s:=by
 unfold kas_sort;rw [KasT.kasWp_bind];refine yco hc O (Kd _) hN fun m q a1 a2 a3 a4=>?_;dsimp only;by_cases e:m<N
 ·rw [if_pos e,show max m 1=m by omega];exact yfo O hc (N-m) m q G a1 (by omega) a4 h
 ·rw [if_neg e];have:m=N:=by omega
  subst this;exact h q a1 a4
end
end
end DL
namespace DL
open PySem PySem.W PyProof.Rows
noncomputable def ltK:List Int->List Int->Bool
 | [a,b],[c,d]=>decide (a<c) || (decide (a=c) && decide (b<d))
 | _,_=>false
noncomputable def isPr:List Int->Bool
 | [_,_]=>true
 | _=>false
theorem yes:∀ x y z,ltK x y=true->ltK y z=true->ltK x z=true
 | [a,b],[c,d],[e,f],h1,h2=>by
  simp only [ltK,Jk,Zm,decide_eq_true_eq] at h1 h2 |-;omega
theorem zks:∀ x y,ltK x y=true->ltK y x=true->False
 | [a,b],[c,d],h1,h2=>by
  simp only [ltK,Jk,Zm,decide_eq_true_eq] at h1 h2;omega
theorem zwt:∀ x y,isPr x=true->isPr y=true->x≠y->ltK x y=true\/ltK y x=true
 | [a,b],[c,d],_,_,h=>by
  simp only [ltK,Jk,Zm,decide_eq_true_eq];have:¬ (a=c/\b=d):=fun hz=>xg hz fun e1 e2=>h (by rw [e1,e2])
  omega
theorem zkk {prog:Program} {w:World} {a b:Int} {vs:List Value} (h:ItemsAre (intKind prog w) [a,b] vs):∃ t u,vs=[.int a t,.int b u]:=by
 cases h with
 | cons h1 h2=>
  cases h2 with
  | cons h2 h3=>
   cases h3;refine xb (K6 h1) fun t e1=>?_;refine xb (K6 h2) fun u e2=>?_;exact⟨t,u,by rw [e1,e2]⟩
theorem yav {α:Type} {R:α->α->Prop} {l:List α} (h:l.length<2):l.Pairwise R:=by
 cases l with
 | nil=>exact List.Pairwise.nil
 | cons x r=>
  cases r with
  | nil=>exact Ka _ _
  | cons y r=>rw [Zj,Zj] at h;omega
section
variable {prog:Program} {w:World} {A:Around} {E:Value->Shared->Prop} {s:Shared}
theorem lt_pr {k l:List Int} {x y:Addr} {Q:Bool->Shared->Prop} (hk:isPr k=true) (hl:isPr l=true) (hx:IsTK prog w s.heap k x) (hy:IsTK prog w s.heap l y) (h:Q (ltK k l) s):wpAny (model prog w) A (keyLt' (tuples' true) (.ref x) (.ref y)) Q E s:=by
 match k,hk,l,hl,hx,hy,h with
 | [a,b],_,[c,d],_,hx,hy,h=>
  refine xo hx fun ox ix n gx _ dx px=>?_;clear hx
  refine xo hy fun oy iy m gy _ dy py=>?_;clear hy
  refine xl (zkk px) fun t u ex=>?_;refine xl (zkk py) fun t' u' ey=>?_;have sx:ix.size=2:=by rw [<- Z4,ex];rfl
  have sy:iy.size=2:=by rw [<- Z4,ey];rfl
  refine kat_lt gx dx gy dy ?_;rw [ex,ey,sx,sy];refine kat_cons (Vx ?_);by_cases e:a=c
  ·rw [show (a == c)=true by simpa using e];refine kat_yes (kat_cons (Vx ?_));by_cases e2:b=d
   ·rw [show (b == d)=true by simpa using e2];refine kat_yes (kat_nil ?_);have:ltK [a,b] [c,d]=decide (2<2):=by subst e;subst e2;simp [ltK]
    rw [this] at h;exact h
   ·rw [show (b == d)=false by simpa using e2];refine kat_no (kat_one _ _ (lt_int ?_));have:ltK [a,b] [c,d]=decide (b<d):=by subst e;simp [ltK]
    rw [this] at h;exact h
  ·rw [show (a == c)=false by simpa using e];refine kat_no ?_;show wpAny _ _ (oneLt' true _ _) _ _ _;refine oneLt_int ?_;have:ltK [a,b] [c,d]=decide (a<c):=by simp [ltK,e]
   rw [this] at h;exact h
theorem katT:∀ (xs:List (List Int×Addr)),(∀ x∈xs,IsTK prog w s.heap x.1 x.2/\isPr x.1=true)->∃ fs,KatTups s.heap (xs.map fun x=>Value.ref x.2) fs/\fs.length=xs.length/\∀ v∈fs,∃ i t,v=.int i t
 | [],_=>⟨[],trivial,rfl,fun v h=>by cases h⟩
 | (k,a)::xs,h=>by
  refine xh (katT xs fun x hx=>h x (.tail _ hx)) fun fs h1 h2 h3=>?_;refine xg (h (k,a) (.head _)) fun hk hp=>?_;match k,hp,hk with
  | [c,d],_,hk=>
   refine xo hk fun o its n g hc hd pi=>?_;clear hk
   refine xl (zkk pi) fun t u e=>?_;refine⟨.int c t::fs,KatTups.cons g hc hd ?_ h1,by simp [h2],fun v hv=>?_⟩
   ·have:its = #[.int c t,.int d u]:=by apply Kl.mp;rw [e]
    rw [this];rfl
   ·rcases Zi.mp hv with e | hv
    ·exact⟨c,t,e⟩
    ·exact h3 v hv
theorem ygk {a:Addr} {xs:List (List Int×Addr)} {n:Nat} {P:PySem.Fin->Shared->Prop} (ho:s.heap.get? a=some (seqObj "list" (xs.map fun x=>Value.ref x.2).toArray n)) (htk:∀ x∈xs,IsTK prog w s.heap x.1 x.2/\isPr x.1=true)
  (nd:(xs.map (·.1)).Nodup) (h64:xs.length<64)
  (h:∀ h' (ys:List (List Int×Addr)) n',ys.Perm xs->ys.Pairwise (fun x y=>ltK x.1 y.1=true)->h'.get? a=some (seqObj "list" (ys.map fun x=>Value.ref x.2).toArray n')->(∀ b o,b≠a->s.heap.get? b=some o->h'.get? b=some o)->P (.done (.ret .none)) {s with heap:=h'}) :
  wpAny (model prog w) A (Builtin.«list.sort» ⟨[.ref a],[]⟩) P E s:=by
 generalize hvs:(xs.map fun x=>Value.ref x.2)=vs at ho;have hlen:vs.length=xs.length:=by rw [<- hvs];simp
 have ha:a<s.heap.objs.size:=Zo ho;have s1:=Wv s.heap a (Obj.mapSeq fun _=>(#[]:Array Value));obtain⟨e1,ho1⟩:∃ e1,(s.heap.update a (Obj.mapSeq fun _=>(#[]:Array Value))).get? a=some (seqObj "list" #[] e1):=⟨_,get?_update_seq ho fun _=>#[]⟩
 generalize hH:((s.heap.update a (Obj.mapSeq fun _=>(#[]:Array Value))).push (seqObj "tuple" vs.toArray 0)).push (seqObj "list" #[] 0)=H;have ho6:H.get? a=some (seqObj "list" #[] e1):=by rw [<- hH];exact Zf _ (Zf _ ho1)
 have keep:∀ b o,b≠a->s.heap.get? b=some o->H.get? b=some o:=fun b o hb e=>by
  rw [<- hH];exact Zf _ (Zf _ ((s1.2 b hb).trans e))
 have hna:∀ x∈xs,x.2≠a:=fun x hx e=>by
  obtain⟨⟨o,_,_,g,hc,_⟩,_⟩:=htk x hx
  rw [e,ho] at g;cases g;injection hc with e
  exact absurd e (by decide)
 have htk6:∀ x∈xs,IsTK prog w H x.1 x.2/\isPr x.1=true:=fun x hx=>by
  obtain⟨⟨o,its,m,g,r⟩,hp⟩:=htk x hx
  exact⟨⟨o,its,m,keep _ _ (hna x hx) g,r⟩,hp⟩
 have fin:∀ (s':Shared) (ys:List (List Int×Addr)),s'={s with heap:=H}->ys.Perm xs->ys.Pairwise (fun x y=>ltK x.1 y.1=true)->P (.done (.ret .none)) {s' with heap:=s'.heap.update a (Obj.mapSeq fun _=>(ys.map fun x=>Value.ref x.2).toArray)}:=fun s' ys e hp hw=>by
  subst e;refine h _ ys _ hp hw (get?_update_seq ho6 fun _=>(ys.map fun x=>Value.ref x.2).toArray) fun b o hb e=>?_;exact ((Wv H a _).2 b hb).trans (keep b o hb e)
 rw [list_sort_plain];refine Zc (Bc ho rfl ?_);refine Zc (Jp ho rfl ?_ (by rw [Zr,Qj];omega) (Ya _));refine Zc (seqEpoch_at ho1 rfl ?_);refine Zc (wpAny_newTuple ?_ (by show vs.length<=_;rw [Qj];omega));refine Zc (Gs ?_ (Ya _));refine Yf ?_;show wpAny (model prog w) A _ P E {s with heap:=((s.heap.update a (Obj.mapSeq fun _=>(#[]:Array Value))).push (seqObj "tuple" vs.toArray 0)).push (seqObj "list" #[] 0)};rw [hH];dsimp only;by_cases h2:vs.toArray.size<2
 ·rw [if_pos h2,if_pos h2];refine Zc (Zg ?_);rw [StateT.run_pure];refine Zc (Zg ?_);dsimp only;refine Zc (seqEpoch_at ho6 rfl ?_);refine Zc (Jp ho6 rfl ?_ (Ya _) (by rw [Array.size_map];show (pairsOf vs).size<=_;rw [pairsOf_size,Qj];omega));simp only [bne_self_eq_false,Zx,if_false];have e2:(arrOf (SortSt.mk' general' (vs.toArray.zip vs.toArray) #[] 7 none)).map (·.2)=(xs.map fun x=>Value.ref x.2).toArray:=by
   rw [hvs];apply Kl.mp
   refine G7 fun i=>?_;show (((pairsOf vs).map (·.2)).toList)[i]? = _;by_cases q:i<vs.length
   ·simp [pairsOf,q]
   ·simp [pairsOf,q]
  refine Zg ?_;have:=fin {s with heap:=H} xs rfl (Kd _) (yav (by
   rw [Zr,hlen] at h2;exact h2))
  rw [<- e2] at this;exact this
 ·rw [if_neg h2,if_neg h2];rw [Zr] at h2;refine xh (katT (s:={s with heap:=H}) xs htk6) fun fs kt kl ki=>?_;rw [hvs] at kt;refine Zc (kat_kind (T:=.type "int") kt (by omega) (fun v hv=>?_) rfl ?_)
  ·refine xl (ki v hv) fun i t qz2=>?_;subst qz2
   exact Looks.of_pure rfl
  have est:SortSt.mk' (tuples' true) (vs.toArray.zip vs.toArray) #[] 7 none=kas_st (tuples' true) (pairsOf vs) (List.toArray (List.range vs.length)):=by
   have e:=kas_range (pairsOf vs);rw [pairsOf_size] at e;show SortSt.mk' (tuples' true) (pairsOf vs) #[] 7 none=SortSt.mk' (tuples' true) ((List.toArray (List.range vs.length)).map (kas_item (pairsOf vs))) #[] 7 none;rw [e]
  let b:Nat->Nat->Bool:=fun i j=>ltK (xs.getD i ([],0)).1 (xs.getD j ([],0)).1
  have gx:∀ i,i<xs.length->xs.getD i ([],0)∈xs:=fun i hi=>by
   rw [Z0,Ze hi];exact Bk hi
  have gv:∀ i,i<xs.length->vs.getD i Value.none=.ref (xs.getD i ([],0)).2:=fun i hi=>by
   rw [<- hvs,Z0,Zk,Z0,Ze hi];rfl
  have O:Ord vs.length b:=⟨fun i j k=>yes _ _ _,fun i j hi hj ne=>zwt _ _ (htk _ (gx i (by omega))).2 (htk _ (gx j (by omega))).2 (fun e=>ne (by
   have hi':i<xs.length:=by omega
   have hj':j<xs.length:=by omega
   rw [Z0,Ze hi',Z0,Ze hj'] at e;have:=(Qz (h₀:=by simpa using hi') (h₁:=by simpa using hj') nd).mp (by simpa using e)
   exact this)),fun i j=>zks _ _⟩
  have ask:(kas_sort vs.length).kasWp (kas_cmp prog w A (tuples' true) (pairsOf vs)) (fun p s'=>s'={s with heap:=H}/\Arr vs.length p/\Srt b p vs.length) {s with heap:=H}:=by
   refine ygl O (fun i j C hi hj hC=>?_) (by omega) fun q h1 h2=>⟨rfl,h1,h2⟩
   unfold kas_cmp;rw [kas_item_eq,kas_item_eq,gv i (by omega),gv j (by omega)];exact lt_pr (htk6 _ (gx i (by omega))).2 (htk6 _ (gx j (by omega))).2 (htk6 _ (gx i (by omega))).1 (htk6 _ (gx j (by omega))).1 hC
  have run:=kas_runs (E:=E) (Q:=fun _ st' s'=>∃ p:Array Nat,p.size=vs.length/\arrOf st'=p.map (kas_item (pairsOf vs))/\failedOf st'=none/\s'={s with heap:=H}/\Arr vs.length p/\Srt b p vs.length)
   (by omega) (by omega) (fun p' st' s' a1 a2 a3 a4=>⟨p',a1,a2,a3,a4⟩) ask
  rw [<- est] at run;refine Zc (Ky run ?_ fun _ _ e=>e);rintro⟨⟨⟩,st'⟩ s' ⟨p,hp,har,hf,rfl,hA,hS⟩
  dsimp only;have hout:(arrOf st').map (·.2)=((p.toList.map fun i=>xs.getD i ([],0)).map fun x=>Value.ref x.2).toArray:=by
   apply Kl.mp
   rw [har,Array.map_map,Array.toList_map,W6];refine Gp fun i hi=>?_;show (kas_item (pairsOf vs) i).2=_;rw [kas_item_eq];exact gv i (by have:=Wi.mp (hA.mem_iff.mp hi);omega)
  rw [hout];refine Zc (seqEpoch_at ho6 rfl ?_);refine Zc (Jp ho6 rfl ?_ (Ya _) (by
   have:p.toList.length=vs.length:=by rw [Z4,hp]
   simp only [Zr,Zd,this];rw [Qj];omega))
  rw [hf];simp only [bne_self_eq_false,Zx,if_false];refine Zg (fin {s with heap:=H} _ rfl ?_ ?_)
  ·have e0:xs=(List.range xs.length).map fun i=>xs.getD i ([],0):=by
    refine List.ext_getElem (by simp) fun i h1 h2=>?_;simp [h1]
   have:=hA.map fun i=>xs.getD i ([],0)
   rw [hlen,<- e0] at this;exact this
  ·rw [Wy,K1];intro i j hi hj hij;have hi':i<p.size:=by simpa using hi
   have hj':j<p.size:=by simpa using hj
   have:=hS i j hij (by omega)
   rw [gd hi',gd hj'] at this;rw [W9,W9];exact this
end
end DL
namespace DL
open PySem PySem.W PyProof.Rows
theorem znc {α β:Type} {f:α->β} {l m:List β} (h:l.Perm m):∀ σ:List α,m=σ.map f->∃ xs:List α,xs.Perm σ/\l=xs.map f:=by
 induction h with
 | nil=>intro σ e;exact⟨σ,.refl _,e⟩
 | cons a _ ih=>
  intro σ e;cases σ with
  | nil=>cases e
  | cons x σ=>
   rw [Zv] at e;injection e with e1 e2
   refine xa (ih σ e2) fun xs h1 h2=>?_;exact⟨x::xs,h1.cons x,by rw [h2,e1];rfl⟩
 | swap a b l=>
  intro σ e;cases σ with
  | nil=>cases e
  | cons x σ=>
   cases σ with
   | nil=>cases e
   | cons y σ=>
    rw [Zv,Zv] at e;injection e with e1 e2
    injection e2 with e2 e3
    exact⟨y::x::σ,.swap _ _ _,by rw [e1,e2,e3];rfl⟩
 | trans _ _ ih1 ih2=>
  intro σ e;refine xa (ih2 σ e) fun xs h1 h2=>?_;refine xa (ih1 xs h2) fun ys h3 h4=>?_;exact⟨ys,h3.trans h1,h4⟩
section
variable {prog:Program} {w:World} {A:Around} {E:Value->Shared->Prop} {s:Shared}
theorem zsw {S:Addr} {σ:List (List Int×Addr)} {Q:Value->Shared->Prop} (hh:A.handled=none) (hS:SetP prog w s.heap S (zfk w) σ) (hpr:∀ x∈σ,isPr x.1=true) (h64:σ.length<64)
  (h:∀ h' tk D (ys:List (List Int×Addr)) n,ys.Perm σ->ys.Pairwise (fun x y=>ltK x.1 y.1=true)->h'.get? D=some (seqObj "list" (ys.map fun x=>Value.ref x.2).toArray n)->s.heap.objs.size<=D->(∀ b o,s.heap.get? b=some o->h'.get? b=some o)->Q (.ref D) {s with heap:=h',toks:=tk}) :
  wpAny (model prog w) A (call (.builtin "sorted") [.ref S]) Q E s:=by
 refine xH hS fun o es ep t ho hx hd T pl ld fw pm nd tk=>?_;clear hS
 have X:SetAt w s.heap S es ep t:=⟨⟨o,ho,hx,hd⟩,T,pl,ld,fw⟩;refine xa (znc ((zqz w S ep es).trans pm) σ rfl) fun xs hp he=>?_;refine Calls.call_function_entry kind_sorted plain_sorted entry_sorted (args_sorted1 _) ?_;unfold Builtin.«sorted»;refine Zc (m:=checkCount "sorted" 1 1 _) (Zg ?_);refine Zc (zpv (by simp [hh]) X fun h' tk' hlt keep=>?_);have hvs:(zdr w S ep es).toList.map (·.2)=xs.map fun x=>Value.ref x.2:=by
  rw [he,W6];rfl
 rw [hvs];refine Zc (Gs ?_ (by rw [Zd,hp.length_eq,Qj];omega));have hoL:(h'.push (seqObj "list" (xs.map fun x=>Value.ref x.2).toArray 0)).get? h'.objs.size=some (seqObj "list" (xs.map fun x=>Value.ref x.2).toArray 0):=Z3 _ rfl;show wpAny _ _ _ _ _ {s with heap:=h'.push (seqObj "list" (xs.map fun x=>Value.ref x.2).toArray 0),toks:=tk'};refine Zc (Yf (Qm slot_list_sort ⟨_,hoL,rfl⟩ entry_list_sort ?body (args_list_sort _)))
 case body=>
  refine ygk (xs:=xs) hoL (fun x hx=>?_) ((hp.map _).nodup_iff.mpr nd) (by rw [hp.length_eq];exact h64) fun h2 ys n' hy hw hg kp=>⟨_,rfl,Zg ⟨_,rfl,h h2 tk' _ ys n' (hy.trans hp) hw hg (Kk hlt) fun b o e=>?_⟩⟩
  ·have hx':=hp.mem_iff.mp hx;refine xn (tk x hx') fun o' its m g r=>?_;exact⟨⟨o',its,m,Zf _ (keep _ _ g),r⟩,hpr x hx'⟩
  ·exact kp b o (Z1 (Zo (keep _ _ e))) (Zf _ (keep _ _ e))
end
end DL
namespace DL
open PySem L2 PyProof.Rows
noncomputable def insK (k:List Int):List (List Int)->List (List Int)
 | []=>[k]
 | x::l=>if ltK k x=true then k::x::l else if k=x then x::l else x::insK k l
noncomputable def ssK:List (List Int)->List (List Int)
 | []=>[]
 | k::l=>insK k (ssK l)
abbrev SrtK (l:List (List Int)):Prop:=l.Pairwise fun x y=>ltK x y=true
theorem insK_mem {k x:List Int}:∀ {l:List (List Int)},x∈insK k l↔x=k\/x∈l
 | []=>by simp [insK]
 | y::l=>by
  unfold insK;split
  ·simp
  ·split
   ·rename_i e;subst e;simp
   ·rw [Zi,insK_mem,Zi];constructor
    ·rintro (h | h | h)
     ·exact .inr (.inl h)
     ·exact .inl h
     ·exact .inr (.inr h)
    ·rintro (h | h | h)
     ·exact .inr (.inl h)
     ·exact .inl h
     ·exact .inr (.inr h)
theorem zrn {k:List Int} (hk:isPr k=true):∀ {l:List (List Int)},(∀ x∈l,isPr x=true)->SrtK l->SrtK (insK k l)
 | [],_,_=>Ka _ _
 | y::l,hp,hs=>by
  refine xg (Wj.mp hs) fun h1 h2=>?_;unfold insK;split
  ·rename_i e;refine Wj.mpr ⟨fun x hx=>?_,hs⟩;rcases Zi.mp hx with q | q
   ·rw [q];exact e
   ·exact yes _ _ _ e (h1 x q)
  ·rename_i e;split
   ·exact hs
   ·rename_i ne;refine Wj.mpr ⟨fun x hx=>?_,zrn hk (fun x hx=>hp x (.tail _ hx)) h2⟩;rcases insK_mem.mp hx with q | q
    ·rw [q];exact (zwt k y hk (hp y (.head _)) ne).resolve_left e
    ·exact h1 x q
theorem ssK_mem {x:List Int}:∀ {l:List (List Int)},x∈ssK l↔x∈l
 | []=>Iff.rfl
 | k::l=>by
  unfold ssK;rw [insK_mem,ssK_mem,Zi]
theorem zou:∀ {l:List (List Int)},(∀ x∈l,isPr x=true)->SrtK (ssK l)
 | [],_=>List.Pairwise.nil
 | k::l,h=>zrn (h k (.head _)) (fun x hx=>h x (.tail _ (ssK_mem.mp hx))) (zou fun x hx=>h x (.tail _ hx))
theorem ydy:∀ {l m:List (List Int)},SrtK l->SrtK m->(∀ x,x∈l↔x∈m)->l=m
 | [],[],_,_,_=>rfl
 | [],y::m,_,_,h=>by have:=(h y).mpr (.head _);cases this
 | x::l,[],_,_,h=>by have:=(h x).mp (.head _);cases this
 | x::l,y::m,hl,hm,h=>by
  refine xg (Wj.mp hl) fun a1 a2=>?_;refine xg (Wj.mp hm) fun b1 b2=>?_;have e:x=y:=by
   rcases Zi.mp ((h x).mp (.head _)) with q | q
   ·exact q
   ·rcases Zi.mp ((h y).mpr (.head _)) with q2 | q2
    ·exact q2.symm
    ·exact (zks _ _ (b1 x q) (a1 y q2)).elim
  subst e;rw [ydy a2 b2 fun z=>⟨fun hz=>?_,fun hz=>?_⟩]
  ·rcases Zi.mp ((h z).mp (.tail _ hz)) with q | q
   ·subst q;exact (zks _ _ (a1 z hz) (a1 z hz)).elim
   ·exact q
  ·rcases Zi.mp ((h z).mpr (.tail _ hz)) with q | q
   ·subst q;exact (zks _ _ (b1 z hz) (b1 z hz)).elim
   ·exact q
noncomputable def keyD:D->Option (List Int)
 | .tup [.int a,.int b]=>some [a,b]
 | _=>none
noncomputable def zkw:List D->Option (List (List Int))
 | []=>some []
 | d::l=>(keyD d).bind fun k=>(zkw l).map fun ks=>k::ks
noncomputable def dK (k:List Int):D:=.tup (k.map D.int)
theorem zxe {d:D} {k:List Int} (h:keyD d=some k):∃ a b,d=.tup [.int a,.int b]/\k=[a,b]:=by
 unfold keyD at h;split at h
 ·cases h;exact⟨_,_,rfl,rfl⟩
 ·cases h
theorem zzi {σ:List (List Int×Addr)} {k:List Int} {b:Addr} {x:List Int}:x∈(addK σ k b).map (·.1)↔x=k\/x∈σ.map (·.1):=by
 unfold addK;split
 ·rename_i h;constructor
  ·exact .inr
  ·rintro (e | e)
   ·rw [e];exact h
   ·exact e
 ·rw [Yk,Yw];constructor
  ·rintro (e | e)
   ·exact .inr e
   ·exact .inl (by simpa using e)
  ·rintro (e | e)
   ·exact .inr (by simpa using e)
   ·exact .inl e
theorem zpr {x:List Int} (xs:List (List Int×Addr)):x∈(zbz xs).map (·.1)↔x∈xs.map (·.1):=by
 have:∀ (ys σ:List (List Int×Addr)),x∈(ys.foldl (fun σ x=>addK σ x.1 x.2) σ).map (·.1)↔x∈σ.map (·.1)\/x∈ys.map (·.1):=by
  intro ys;induction ys with
  | nil=>intro σ;simp
  | cons y ys ih=>
   intro σ;rw [Vg,ih,zzi,Zv,Zi];constructor
   ·rintro ((h | h) | h)
    ·exact .inr (.inl h)
    ·exact .inl h
    ·exact .inr (.inr h)
   ·rintro (h | h | h)
    ·exact .inl (.inr h)
    ·exact .inl (.inl h)
    ·exact .inr h
 unfold zbz;rw [this];simp
section
variable {X:Cx} {e:Expr} {es:List Expr} {ρ:Rho} {pos:Pos} {w:W}
theorem zsa {K:PySem.W.Frag} {F:Hp}:∀ {l:List D} {xs:List V} {ks:List (List Int)},DenL K F l xs->zkw l=some ks->∃ zs:List (List Int×Addr),xs=zs.map (fun z=>V.ref z.2)/\zs.map (·.1)=ks/\∀ z∈zs,SqT K F z.2 (z.1.map V.int)/\isPr z.1=true
 | [],_,_,h,e=>by
  cases e;exact⟨[],h.inv_nil,rfl,fun z hz=>by cases hz⟩
 | d::l,_,_,h,e=>by
  unfold zkw at e;refine xa (Za.mp e) fun k e1 e2=>?_;refine xa (Zb.mp e2) fun ks e3 e4=>?_;subst e4;refine xi (zxe e1) fun a b ed ek=>?_;refine xc h.inv_cons fun v vs ev q r=>?_;refine xh (zsa r e3) fun zs h1 h2 h3=>?_;rw [ed] at q;refine xc q.tup fun t ys et sq qs=>?_;refine xc qs.two fun u1 u2 eu q1 q2=>?_;rw [eu,q1.int,q2.int] at sq;refine⟨(k,t)::zs,by rw [ev,et,h1];rfl,by rw [<- h2];rfl,fun z hz=>?_⟩
  rcases Zi.mp hz with e | hz
  ·subst e;rw [ek];exact⟨sq,rfl⟩
  ·exact h3 z hz
theorem zlw:∀ {zs:List (List Int×Addr)} {us:List Value},Vals (zs.map fun z=>V.ref z.2) us->us=zs.map fun z=>Value.ref z.2
 | [],_,h=>by cases h;rfl
 | z::zs,_,h=>by
  cases h with
  | cons h1 h2=>rw [show _=Value.ref z.2 from h1,zlw h2];rfl
theorem zuh:∀ (zs:List (List Int×Addr)),Vals (zs.map fun z=>V.ref z.2) (zs.map fun z=>Value.ref z.2)
 | []=>.nil
 | z::zs=>.cons rfl (zuh zs)
theorem zqh {prog:Program} {w:World}:∀ {k:List Int} {us:List Value},Vals (k.map V.int) us->ItemsAre (intKind prog w) k us
 | [],_,h=>by cases h;exact .nil
 | i::k,_,h=>by
  cases h with
  | cons h1 h2=>
   refine xb h1 fun t e=>?_;clear h1
   subst e;exact .cons (by show Value.isInt i (.int i t)=true;simp [Value.isInt]) (zqh h2)
theorem Inv.tk {pins σ H s} {z:List Int×Addr} (I:Inv X pins σ H s) (h:SqT X.K H z.2 (z.1.map V.int)):IsTK X.prog X.w s.heap z.1 z.2:=by
 obtain⟨its,r,⟨o,ho,hc,n,hd⟩,_⟩:=I.tuple h
 exact⟨o,its.toArray,n,ho,hc,hd,zqh r⟩
theorem yjy {pins s σ H} {a:Addr} {zs:List (List Int×Addr)} {Q:VK} (hX:X.calm=true) (hu:X.A.units+16<cLine) (I:Inv X pins σ H s) (hl:SqL X.K H a (zs.map fun z=>V.ref z.2)) (hz:∀ z∈zs,SqT X.K H z.2 (z.1.map V.int)/\isPr z.1=true) (hn:zs.length<=63)
  (h:∀ (ys:List (List Int×Addr)) p,(∀ y∈ys,y∈zs)->ys.map (·.1)=ssK (zs.map (·.1))->H p=none->Q (.ref p) (upd H p (.lst (ys.map fun z=>V.ref z.2)))) :
  wpAny (model X.prog X.w) X.A (call (.type "set") [.ref a]) (fun m s1=>wpAny (model X.prog X.w) X.A (call (.builtin "sorted") [m]) (EP X pins σ Q) X.xe s1) X.xe s:=by
 refine xh (I.list hl) fun its r pl _=>?_;have e:=zlw r;subst e;refine zyh (I.ok.hd hX) hu pl.isList (by simp) (fun x hx=>Inv.tk I (hz x hx).1) (by omega) fun h' tk S keep=>?_;have len:(zbz zs).length<64:=by have:=zjs zs;omega
 refine zsw (I.ok.hd hX) S (fun x hx=>(hz x (zdo hx)).2) len fun h2 tk2 D ys n hp hw hg hD kp=>?_;have mem:∀ y∈ys,y∈zs:=fun y hy=>zdo (hp.mem_iff.mp hy)
 have keys:ys.map (·.1)=ssK (zs.map (·.1)):=by
  refine ydy (Wy.mpr hw) (zou fun x hx=>?_) fun x=>?_
  ·refine xa (Zz.mp hx) fun z q e=>?_;rw [<- e];exact (hz z q).2
  ·rw [ssK_mem];exact ((hp.map _).mem_iff).trans (zpr zs)
 have hle:s.heap.objs.size<=D:=by
  have h1:s.heap.objs.size<h'.objs.size:=S.lt;have h2:h'.objs.size<=D:=hD;exact Y3 (Kk h1) h2
 refine⟨.ref D,_,I.laid (t':=tk2) (fun b u q=>kp b u (keep b u q)) hle (show ObjOk X.prog X.w _ h2 D (.lst (ys.map fun z=>V.ref z.2)) from⟨?_,ys.map (fun z=>Value.ref z.2),n,zuh ys,hg⟩),rfl,h ys D mem keys (I.hok.fresh hle)⟩
 rw [Zd,hp.length_eq,Qj];omega
end
end DL
namespace DL
open PySem L2 PyProof.Rows
theorem zte:typeLookup (.type "list_reverseiterator") "__len__" = pure none:=by rw [Ki,Qb];kernel_rfl
theorem yas:typeLookup (.type "list_reverseiterator") "__length_hint__" = pure (some (.builtin "list_reverseiterator.__length_hint__")):=by rw [Ki,Qb];kernel_rfl
section
variable {prog:Program} {w:World} {A:Around} {E:Value->Shared->Prop} {s:Shared}
theorem ycc {I l:Addr} {i:Int} {Q:Bool->Shared->Prop} (h:s.heap.IsRevIter I l i) (hQ:Q false s):wpAny (model prog w) A (Builtin.List.listLengthHint (.ref I)) Q E s:=by
 have hT:=h.typeIs;unfold Builtin.List.listLengthHint;refine Zc (Qs hT zte ?_);show wpAny _ A (specialOf (Value.ref I) (Str.ofString "__length_hint__") >>= _) _ _ _;refine Zc (Qs hT yas ?_);generalize hid:("list_reverseiterator.__length_hint__" : String)=id0;wp_delta
 rw [show splitId id0=some ("list_reverseiterator", "__length_hint__") from by subst hid;decide +kernel];subst hid;refine Zc (Jy (b:=true) hT (by rw [Ut];kernel_rfl) ?_);exact Zg hQ
theorem zto {R:Result->Shared->Prop} {S I l:Addr} {items:Array Value} (res:Value) (c₀:Nat) (hh:A.handled=none) (hz:items.size<=sizeLine) (hi:s.heap.IsRevIter I l ((items.size:Int)-1)) (hl:s.heap.IsList l items) (hlI:l≠I) (hSI:S≠I) (hSl:S≠l) (hS:s.heap.get? S=some {cls:=.type "list", data:=.seq #[] c₀})
  (hR:∀ h' tk c',(∀ b o,b≠S->b≠I->s.heap.get? b=some o->h'.get? b=some o)->h'.get? S=some {cls:=.type "list", dict:=none,data:=.seq items.reverse c',slots:=#[]}->R (.ok (.ret res)) {s with heap:=h',toks:=tk}) :
  wpAny (model prog w) A.in1 (Builtin.List.listExtendWith (.ref S) (.ref I) res)
   (fun fin s'=>match fin with | .done f=>R (.ok f) s' | .again c'=>c'.quiet=true/\codeAny (model prog w) A c' R s') (fun e s'=>R (.error e) s') s:=by
 unfold Builtin.List.listExtendWith;refine Zc (Uf hi.typeIs ?_);have h1:Builtin.List.listSameRef (.ref S) (.ref I)=false:=by simp [Builtin.List.listSameRef,hSI]
 rw [if_neg (by rw [h1];decide)];refine Zc (wpAny_pyIter_revIter hi ?_);refine Zc (Yf (ycc hi ?_));show wpAny _ A.in1 (again (.builtin "list.extend.loop" ⟨[.ref S,.ref I,res],[]⟩)) _ _ _;have W:=(Walks.listRev (prog:=prog) (w:=w) (A:=A.in1) (by simp [hh]) I l hlI items).toS;refine Zg ⟨Wt Wq _,codeAny_extend_loopS W hz S (by simp [hSI,hSl]) res items.size 0 _ _ _ rfl (Ya _) ⟨Ya _,by simpa using hi,hl⟩ hS (ItemsOf.nil _) fun s' acc' c' hm hS' hacc=>?_⟩;obtain⟨h',g',d',tk',os'⟩:=s'
 have eg:g'=s.gens:=hm.gens;have ed:d'=s.drawn:=hm.drawn;have eo:os'=s.os:=hm.os;subst eg;subst ed;subst eo;have ea:acc'=items.reverse:=by
  refine Array.ext_getElem? fun j=>?_;cases z:acc'[j]? with
  | none=>
   have h1:acc'.size<=j:=by simpa using z
   rw [hacc.1] at h1;symm
   simpa using h1
  | some v=>
   have h1:j<acc'.size:=by
    refine xb (Yu.mp z) fun q _=>?_;exact q
   rw [hacc.1] at h1;have:=hacc.2 j v z
   rw [Array.getElem?_reverse h1];exact this.symm
 subst ea;exact hR h' tk' c' (fun b o h1 h2 e=>hm.heap b o (by simp [h1,h2]) e) hS'
theorem zlk {I l:Addr} {items:Array Value} {Q:Value->Shared->Prop} (hh:A.handled=none) (hz:items.size<=sizeLine) (hi:s.heap.IsRevIter I l ((items.size:Int)-1)) (hl:s.heap.IsList l items) (hlI:l≠I)
  (hQ:∀ h' tk c',(∀ b o,b≠I->s.heap.get? b=some o->h'.get? b=some o)->h'.get? s.heap.objs.size=some {cls:=.type "list", dict:=none,data:=.seq items.reverse c',slots:=#[]}->Q (.ref s.heap.objs.size) {s with heap:=h',toks:=tk}) :
  wpAny (model prog w) A (call (.type "list") [.ref I]) Q E s:=by
 have lI:I<s.heap.objs.size:=by refine xa hi fun o ho _=>?_;clear hi;exact Zo ho
 have ll:l<s.heap.objs.size:=by refine xa hl fun o ho _=>?_;clear hl;exact Zo ho
 refine callType_codes (Q₁:=fun obj s₁=>obj=.ref s.heap.objs.size/\s₁={s with heap:=s.heap.push {cls:=.type "list", data:=.seq #[]} }) F.called_list (F.typeCall_list_1 _) F.entry_list_init
  (code_list_new _ ⟨rfl,rfl⟩) fun obj s₁ h₁=>?_
 refine xg h₁ fun qz0 qz1=>?_;clear h₁;subst qz0;subst qz1
 have hS:(s.heap.push {cls:=.type "list", data:=.seq #[]}).get? s.heap.objs.size=some {cls:=.type "list", data:=.seq #[]}:=Z3 _ rfl;refine⟨⟨_,hS,rfl⟩,F.args_list_init_2 _ _,?_⟩
 show wpAny _ A.in1.in1 (do let old <- Builtin.List.listItems (.ref s.heap.objs.size);Builtin.List.listUpdate (.ref s.heap.objs.size) (fun _=>#[]);letGo old.toList.reverse;Builtin.List.listExtendWith (.ref s.heap.objs.size) (.ref I) .none) _ _ _;refine Zc (Bc hS rfl ?_);refine Zc (Jp hS rfl ?_ (Ya _) (Ya _));have hS₂:=Yi (Obj.mapSeq (fun _=>(#[]:Array Value))) hS rfl;have oth:∀ b o,b≠s.heap.objs.size->s.heap.get? b=some o->((s.heap.push {cls:=.type "list", data:=.seq #[]}).update s.heap.objs.size (Obj.mapSeq (fun _=>(#[]:Array Value)))).get? b=some o:=
  fun b o hb e=>(Z9 _ _ (Wh hb)).trans (Zf _ e)
 refine Zc (Jn ?_);refine zto .none _ (by simp [hh]) hz (hi.at fun o e=>oth I o (Z1 lI) e) (hl.at fun o e=>oth l o (Z1 ll) e) hlI (Z8 lI) (Z8 ll) hS₂ fun h' tk c' kp e=>?_;exact⟨rfl,hQ h' tk c' (fun b o hb e=>kp b o (Z1 (Zo e)) hb (oth b o (Z1 (Zo e)) e)) e⟩
end
section
variable {X:Cx} {e:Expr} {es:List Expr} {ρ:Rho} {pos:Pos} {w:W}
theorem yay {x y:Str} {p p2 q2:Pos} {f g:String} {t:TA} {r:List V->Hp->VK->Prop} (hc:∀ pins s σ H vs us Q,Inv X pins σ H s->Vals vs us->r vs H Q->wpAny (model X.prog X.w) X.A (call (.type g) us) (fun m s1=>wpAny (model X.prog X.w) X.A (call (.type f) [m]) (EP X pins σ Q) X.xe s1) X.xe s)
  (hg:Gl X x) (hm:X.mg x=none) (hv:bootBuiltins x=some (.type f)) (hn:x ≠ "__name__") (hdb:(x == ("__debug__" : Str))=false) (hg2:Gl X y) (hm2:X.mg y=none) (hv2:bootBuiltins y=some (.type g)) (hn2:y ≠ "__name__") (hdb2:(y == ("__debug__" : Str))=false) (ha:PA X (e::es) t) (hs:Bs e=true) (hss:es.all Bs=true) :
  PE X (.Call (.Name x p) [.Call (.Name y p2) (e::es) [] q2] [] pos) (fun σ H Q=>t σ H fun vs H1=>r vs H1 Q):=by
 intro pins s σ H Q I h;refine Qa (zeo I hg hm hv ?_ hn hdb);refine Wd ?_;show wpAny _ _ (spliced ((false,eval (.Call (.Name y p2) (e::es) [] q2) X.env)::backTo pos (starEach [] X.env))) _ _ s;refine Uh ?_;refine Qa (zeo I hg2 hm2 hv2 ?_ hn2 hdb2);refine Wd (thn (ha q2 pins s σ H _ I h) fun us s1 hz=>xc hz fun vs H1 I1 r1 q1=>?_) (Bx hs) (zcl hss);exact thn (hc pins s1 σ H1 vs us Q I1 r1 q1) fun m s2 hm=>Ur hm
theorem yaz {x y:Str} {p p2 q2:Pos} {f g:String} {t:TA} {r:List V->Hp->VK->Prop} (hc:∀ pins s σ H vs us Q,Inv X pins σ H s->Vals vs us->r vs H Q->wpAny (model X.prog X.w) X.A (call (.type g) us) (fun m s1=>wpAny (model X.prog X.w) X.A (call (.builtin f) [m]) (EP X pins σ Q) X.xe s1) X.xe s)
  (hg:Gl X x) (hm:X.mg x=none) (hv:bootBuiltins x=some (.builtin f)) (hn:x ≠ "__name__") (hdb:(x == ("__debug__" : Str))=false) (hg2:Gl X y) (hm2:X.mg y=none) (hv2:bootBuiltins y=some (.type g)) (hn2:y ≠ "__name__") (hdb2:(y == ("__debug__" : Str))=false) (ha:PA X (e::es) t) (hs:Bs e=true) (hss:es.all Bs=true) :
  PE X (.Call (.Name x p) [.Call (.Name y p2) (e::es) [] q2] [] pos) (fun σ H Q=>t σ H fun vs H1=>r vs H1 Q):=by
 intro pins s σ H Q I h;refine Qa (zeo I hg hm hv ?_ hn hdb);refine Jr ?_;show wpAny _ _ (spliced ((false,eval (.Call (.Name y p2) (e::es) [] q2) X.env)::backTo pos (starEach [] X.env))) _ _ s;refine Uh ?_;refine Qa (zeo I hg2 hm2 hv2 ?_ hn2 hdb2);refine Wd (thn (ha q2 pins s σ H _ I h) fun us s1 hz=>xc hz fun vs H1 I1 r1 q1=>?_) (Bx hs) (zcl hss);exact thn (hc pins s1 σ H1 vs us Q I1 r1 q1) fun m s2 hm=>Ur hm
def zon (X:Cx) (f g:Value) (ds:List D) (w:W):Prop:=∃ r:List V->Hp->VK->Prop,(∀ pins s σ H vs us Q,Inv X pins σ H s->Vals vs us->r vs H Q->wpAny (model X.prog X.w) X.A (call g us) (fun m s1=>wpAny (model X.prog X.w) X.A (call f [m]) (EP X pins σ Q) X.xe s1) X.xe s) /\
 ∀ (H0 Fc H F:Hp) (σ:L2.St) (ρ:Rho) (vs:List V) (Q:VK),ER X.K H0 Fc F H σ ρ->DenL X.K F ds vs->(∀ v' H' F',Same F F'->ER X.K H0 Fc F' H' σ ρ->RW X.K H0 F' H' w v'->Q v' H')->r vs H Q
theorem DE.nestT {x y:Str} {p p2 q2:Pos} {f g:String} {ds:List D} (hc:zon X (.type f) (.type g) ds w) (hg:Gl X x) (hm:X.mg x=none) (hv:bootBuiltins x=some (.type f)) (hn:x ≠ "__name__") (hdb:(x == ("__debug__" : Str))=false) (hg2:Gl X y) (hm2:X.mg y=none) (hv2:bootBuiltins y=some (.type g)) (hn2:y ≠ "__name__") (hdb2:(y == ("__debug__" : Str))=false)
  (ha:DA X (e::es) ρ ds) (hs:Bs e=true) (hss:es.all Bs=true):DE X (.Call (.Name x p) [.Call (.Name y p2) (e::es) [] q2] [] pos) ρ w:=fun H0 Fc=>by
 refine xa hc fun r hr hq=>?_;clear hc
 refine PE.mono (yay hr hg hm hv hn hdb hg2 hm2 hv2 hn2 hdb2 (ha H0 Fc) hs hss) fun σ H Q hz=>xa hz fun F R k=>⟨F,R,fun vs H1 F1 s1 R1 q1=>?_⟩
 exact hq H0 Fc H1 F1 σ ρ vs Q R1 q1 fun v' H' F' s' R' q'=>k v' H' F' (s1.trans s') R' q'
theorem DE.nestB {x y:Str} {p p2 q2:Pos} {f g:String} {ds:List D} (hc:zon X (.builtin f) (.type g) ds w) (hg:Gl X x) (hm:X.mg x=none) (hv:bootBuiltins x=some (.builtin f)) (hn:x ≠ "__name__") (hdb:(x == ("__debug__" : Str))=false) (hg2:Gl X y) (hm2:X.mg y=none) (hv2:bootBuiltins y=some (.type g)) (hn2:y ≠ "__name__") (hdb2:(y == ("__debug__" : Str))=false)
  (ha:DA X (e::es) ρ ds) (hs:Bs e=true) (hss:es.all Bs=true):DE X (.Call (.Name x p) [.Call (.Name y p2) (e::es) [] q2] [] pos) ρ w:=fun H0 Fc=>by
 refine xa hc fun r hr hq=>?_;clear hc
 refine PE.mono (yaz hr hg hm hv hn hdb hg2 hm2 hv2 hn2 hdb2 (ha H0 Fc) hs hss) fun σ H Q hz=>xa hz fun F R k=>⟨F,R,fun vs H1 F1 s1 R1 q1=>?_⟩
 exact hq H0 Fc H1 F1 σ ρ vs Q R1 q1 fun v' H' F' s' R' q'=>k v' H' F' (s1.trans s') R' q'
theorem zqf:∀ {xs:List V} {us:List Value},Vals xs us->Vals xs.reverse us.reverse
 | [],_,h=>by cases h;exact .nil
 | x::xs,_,h=>by
  cases h with
  | cons h1 h2=>
   rw [Y6,Y6];exact (zqf h2).append (.cons h1 .nil)
theorem DenL.rev {K:PySem.W.Frag} {F:Hp}:∀ {l:List D} {xs:List V},DenL K F l xs->DenL K F l.reverse xs.reverse
 | [],_,h=>by rw [h.inv_nil];exact DenL.nil
 | d::l,_,h=>by
  refine xc h.inv_cons fun v vs e q r=>?_;subst e;rw [Y6,Y6];exact (DenL.rev r).append (DenL.cons q DenL.nil)
theorem ybh {l:List D} (hX:X.calm=true):zon X (.type "list") (.type "reversed") [.lst l] (.new l.reverse):=by
 refine⟨fun vs H Q=>∃ a xs,vs=[.ref a]/\SqL X.K H a xs/\∀ p,H p=none->Q (.ref p) (upd H p (.lst xs.reverse)),fun pins s σ H vs us Q I r h=>?_,fun H0 Fc H F σ ρ vs Q R q k=>?_⟩
 ·refine xc h fun a xs qz2 hl hq=>?_;clear h;subst qz2
  refine xa (zly r) fun u qz1 rx=>?_;subst qz1
  cases rx;refine xh (I.list hl) fun its r pl hz=>?_;have hlen:=r.length;have hla:a<s.heap.objs.size:=by refine xa pl.isList fun o ho _=>?_;exact Zo ho
  refine call_reversed_list pl.isList ?_;have hi:(s.heap.push (revObj a ((its.toArray.size:Int)-1))).IsRevIter s.heap.objs.size a ((its.toArray.size:Int)-1):=⟨_,Z3 _ rfl,rfl,rfl⟩;refine zlk (I.ok.hd hX) (by simp only [Zr];omega) hi (pl.isList.push _) (Z1 hla) fun h' tk c' kp e=>?_;have hsz:(s.heap.push (revObj a ((its.toArray.size:Int)-1))).objs.size=s.heap.objs.size+1:=K5 ..;have hle:s.heap.objs.size<=(s.heap.push (revObj a ((its.toArray.size:Int)-1))).objs.size:=by rw [hsz];exact Nat.le_succ _
  refine⟨.ref _,_,I.laid (t':=tk) (fun b u q=>kp b u (Z1 (Zo q)) (Zf _ q)) hle (show ObjOk X.prog X.w _ h' _ (.lst xs.reverse) from⟨by rw [Yv];exact hz,its.reverse,c',zqf r,?_⟩),rfl,hq _ (I.hok.fresh hle)⟩
  have ee:its.toArray.reverse=its.reverse.toArray:=by simp
  rw [<- ee];exact e
 ·refine xa q.one fun v e q=>?_;refine xc q.lst fun p xs e1 sq r=>?_;rw [e1] at e;refine⟨p,xs,e,R.sub.seq sq,fun p2 hp=>?_⟩
  refine xj (R.put (.lst xs.reverse) hp) fun R4 hF h0=>?_;exact k _ _ _ (Same.refl _) R4 (RW.n hF h0 Bz (DenL.rev r))
theorem yid {l:List D} {ks:List (List Int)} (hX:X.calm=true) (hu:X.A.units+16<cLine) (hk:zkw l=some ks) (hn:ks.length<=63):zon X (.builtin "sorted") (.type "set") [.lst l] (.new ((ssK ks).map dK)):=by
 refine⟨fun vs H Q=>∃ (a:Addr) (zs:List (List Int×Addr)),vs=[.ref a]/\SqL X.K H a (zs.map fun z=>V.ref z.2)/\(∀ z∈zs,SqT X.K H z.2 (z.1.map V.int)/\isPr z.1=true)/\zs.length<=63 /\
   ∀ (ys:List (List Int×Addr)) p,(∀ y∈ys,y∈zs)->ys.map (·.1)=ssK (zs.map (·.1))->H p=none->Q (.ref p) (upd H p (.lst (ys.map fun z=>V.ref z.2))),fun pins s σ H vs us Q I r h=>?_,fun H0 Fc H F σ ρ vs Q R q k=>?_⟩
 ·refine xm h fun a zs qz2 q1 q2 q3 q4=>?_;clear h;subst qz2
  refine xa (zly r) fun u qz1 rx=>?_;subst qz1
  cases rx;exact yjy hX hu I q1 q2 q3 q4
 ·refine xa q.one fun v e q=>?_;refine xc q.lst fun a xs e1 sq r=>?_;rw [e1] at e;refine xh (zsa r hk) fun zs h1 h2 h3=>?_;subst h1;subst h2;refine⟨a,zs,e,R.sub.seq sq,fun z hz=>⟨Same.tup R.sub (h3 z hz).1,(h3 z hz).2⟩,by simpa using hn,fun ys p mem keys hp=>?_⟩
  refine xj (R.put (.lst (ys.map fun z=>V.ref z.2)) hp) fun R4 hF h0=>?_;refine k _ _ _ (Same.refl _) R4 (RW.n hF h0 Bz ?_);rw [<- keys,W6];clear keys hp R4 hF h0 k;induction ys with
  | nil=>exact DenL.nil
  | cons y ys ih=>exact DenL.cons (Den.tup_mk (h3 y (mem y (.head _))).1 (DenL.ints _)) (ih fun z hz=>mem z (.tail _ hz))
theorem zym {l:List D}:zgm X (.type "tuple") [.lst l] (.val (.tup l)):=⟨_,zli,fun H0 Fc H F σ ρ vs Q R q k=>by
 refine xa q.one fun v e q=>?_;refine xc q.lst fun p xs e1 sq r=>?_;rw [e1] at e;refine⟨p,xs,e,.inl ⟨R.sub.seq sq,fun p2 hp=>?_⟩⟩
 refine xg (R.lay (.tup xs) hp) fun R2 s2=>?_;exact k _ _ _ s2 R2 (RW.v (Den.tup_mk (SqT.of Bz) (r.mono s2)))⟩
end
end DL
namespace DL
open PySem L2 PyProof.Rows
section
variable {prog:Program} {w:World} {A:Around} {E:Value->Shared->Prop} {s:Shared}
abbrev IsZ2 (h:Heap) (z TI TO T:Addr) (f1:Bool):Prop:=
 h.get? z=some {cls:=.type "zip", dict:=none,data:=.fields #[rawInt T,.bool f1,.bool false,.ref TI,.ref TO],slots:=#[]}
theorem ybx {a:Addr} {Q:Option Obj->Shared->Prop} (h:Q (s.heap.get? a) s):wpAny (model prog w) A (loadIfAlive a) Q E s:=fun _ _ _=>h
theorem zqx {z TI TO T:Addr} {f1:Bool} {Q:Bool->Shared->Prop} (hz:IsZ2 s.heap z TI TO T f1) (hT:∃ o,s.heap.get? T=some o) (h:∀ h',IsZ2 h' z TI TO T true->Heap.SameBut z s.heap h'->Q false {s with heap:=h'}) :
  wpAny (model prog w) A (Builtin.SmallTypes.ownedTupleIsFree (.ref z)) Q E s:=by
 refine xb hT fun o ho=>?_;clear hT
 unfold Builtin.SmallTypes.ownedTupleIsFree;refine Zc (Jo hz rfl (x:=rawInt T) rfl ?_);show wpAny _ _ (loadIfAlive ((T:Int)).toNat >>= _) _ _ _;rw [Qq];refine Zc (ybx ?_);rw [ho];simp only [Option.isNone_some,Zx,if_false];refine Zc (Jo hz rfl (x:=.bool f1) rfl ?_);cases f1 with
 | true=>
  exact Zc (Zg (Zg (h _ hz ⟨rfl,fun _ _=>rfl⟩)))
 | false=>
  refine Zc (wpAny_setField_rec hz (by simp) fun h₁ hz₁ hs₁=>?_);exact Zg (h _ hz₁ hs₁)
structure ZA (z TI i1 i2 l1 l2:Addr):Prop where
 TIz:TI≠z
 i1z:i1≠z
 i2z:i2≠z
 TIi1:TI≠i1
 TIi2:TI≠i2
 i12:i1≠i2
 l1z:l1≠z
 l1i1:l1≠i1
 l1i2:l1≠i2
 l2z:l2≠z
 l2i1:l2≠i1
 l2i2:l2≠i2
theorem ztz {z TI TO T i1 i2 l1 l2:Addr} {f1:Bool} {k1 k2:Nat} {xs ys:Array Value} {x y:Value} {Q:Option Value->Shared->Prop} (D:ZA z TI i1 i2 l1 l2) (hz:IsZ2 s.heap z TI TO T f1) (hT:∃ o,s.heap.get? T=some o) (hTI:IsPair s.heap TI (.ref i1) (.ref i2))
  (h1:s.heap.IsListIter i1 l1 k1) (h2:s.heap.IsListIter i2 l2 k2) (hl1:s.heap.IsList l1 xs) (hl2:s.heap.IsList l2 ys) (hx:xs[k1]? = some x) (hy:ys[k2]? = some y)
  (hQ:∀ h',IsZ2 h' z TI TO T true->h'.IsListIter i1 l1 (k1+1)->h'.IsListIter i2 l2 (k2+1)->IsPair h' s.heap.objs.size x y->h'.objs.size=s.heap.objs.size+1 ->
   (∀ c o,c≠z->c≠i1->c≠i2->s.heap.get? c=some o->h'.get? c=some o)->Q (some (.ref s.heap.objs.size)) {s with heap:=h'}) :
  wpAny (model prog w) A (pyNext (.ref z)) Q E s:=by
 have hTy:s.TypeIs (.ref z) "zip" := ⟨_,hz,rfl⟩;unfold pyNext;refine Zc (U6 (wpAny_callSpecial?_slot (name:=Str.ofString "__next__") hTy Ud (Qm Ud hTy F.entry_zip_next ?_ (F.args_zip_next_1 _))));show wpAny _ _ (field (.ref z) 2 >>= _) _ _ _;refine Zc (Jo hz rfl (x:=.bool false) rfl ?_);show wpAny _ _ (field (.ref z) 3 >>= _) _ _ _;refine Zc (Jo hz rfl (x:=.ref TI) rfl ?_);refine Zc (Q9 hTI rfl ?_);show wpAny _ _ (Builtin.SmallTypes.ownedTupleIsFree (.ref z) >>= _) _ _ _;refine Zc (zqx hz hT fun h₁ hz₁ hs₁=>?_);simp only [Zx,if_false];refine Zc ?_;rw [<- Kt];simp only [Vf,List.forIn_nil];refine Zc (Zc (Yf ?_));show wpAny _ _ (Builtin.SmallTypes.nextOf (.ref i1) >>= _) _ _ _;refine Zc (G0 (h1.extBut hs₁.extBut D.i1z) (hl1.extBut hs₁.extBut D.l1z) hx fun h₂ h1₂ hs₂=>Zg (Zg ?_));refine Zc (Zc (Yf ?_));show wpAny _ _ (Builtin.SmallTypes.nextOf (.ref i2) >>= _) _ _ _;refine Zc (G0 ((h2.extBut hs₁.extBut D.i2z).extBut hs₂.extBut D.i12.symm) ((hl2.extBut hs₁.extBut D.l2z).extBut hs₂.extBut D.l2i1) hy fun h₃ h2₃ hs₃=>Zg (Zg (Zg ?_)));refine Zc (wpAny_newTuple ?_ (by show 2<=sizeLine;decide));have hsz:h₃.objs.size=s.heap.objs.size:=by rw [hs₃.1,hs₂.1,hs₁.1]
 have kp:∀ c o,c≠z->c≠i1->c≠i2->s.heap.get? c=some o->h₃.get? c=some o:=fun c o c1 c2 c3 e=>hs₃.extBut _ _ c3 (hs₂.extBut _ _ c2 (hs₁.extBut _ _ c1 e))
 have hz₃:IsZ2 h₃ z TI TO T true:=hs₃.extBut _ _ D.i2z.symm (hs₂.extBut _ _ D.i1z.symm hz₁);have h1₃:=h1₂.extBut hs₃.extBut D.i12;refine Zg ⟨_,rfl,Zg ?_⟩;show Q (some (.ref h₃.objs.size)) _;have g:(h₃.push {cls:=.type "tuple", data:=.seq #[x,y]}).get? h₃.objs.size=some {cls:=.type "tuple", data:=.seq #[x,y]}:=Z3 _ rfl;have z8:(h₃.push {cls:=.type "tuple", data:=.seq #[x,y]}).objs.size=h₃.objs.size+1:=K5 ..;rw [hsz] at g z8 |-;exact hQ _ (Zf _ hz₃) (h1₃.at fun o e=>Zf _ e) (h2₃.at fun o e=>Zf _ e) g z8 fun c o c1 c2 c3 e=>Zf _ (kp c o c1 c2 c3 e)
theorem zzn {z TI TO T i1 i2 l1 l2:Addr} {f1:Bool} {k1 k2:Nat} {xs ys:Array Value} {Q:Option Value->Shared->Prop} (hh:A.handled=none) (D:ZA z TI i1 i2 l1 l2) (hz:IsZ2 s.heap z TI TO T f1) (hT:∃ o,s.heap.get? T=some o) (hTI:IsPair s.heap TI (.ref i1) (.ref i2))
  (h1:s.heap.IsListIter i1 l1 k1) (h2:s.heap.IsListIter i2 l2 k2) (hl1:s.heap.IsList l1 xs) (hl2:s.heap.IsList l2 ys) (hx:xs[k1]? = none)
  (hQ:∀ h',(∀ c o,c≠z->c≠i1->c≠i2->s.heap.get? c=some o->h'.get? c=some o)->Q none {s with heap:=h'}):wpAny (model prog w) A (pyNext (.ref z)) Q E s:=by
 have hTy:s.TypeIs (.ref z) "zip" := ⟨_,hz,rfl⟩;unfold pyNext;refine Zc (U6 (wpAny_callSpecial?_slot (name:=Str.ofString "__next__") hTy Ud (Qm Ud hTy F.entry_zip_next ?_ (F.args_zip_next_1 _))));show wpAny _ _ (field (.ref z) 2 >>= _) _ _ _;refine Zc (Jo hz rfl (x:=.bool false) rfl ?_);show wpAny _ _ (field (.ref z) 3 >>= _) _ _ _;refine Zc (Jo hz rfl (x:=.ref TI) rfl ?_);refine Zc (Q9 hTI rfl ?_);show wpAny _ _ (Builtin.SmallTypes.ownedTupleIsFree (.ref z) >>= _) _ _ _;refine Zc (zqx hz hT fun h₁ hz₁ hs₁=>?_);simp only [Zx,if_false];refine Zc ?_;rw [<- Kt];simp only [Vf,List.forIn_nil];refine Zc (Zc (Yf ?_));show wpAny _ _ (Builtin.SmallTypes.nextOf (.ref i1) >>= _) _ _ _;refine Zc (wpAny_nextOf_list_end (by first | exact hh | simp [hh]) (h1.extBut hs₁.extBut D.i1z) (hl1.extBut hs₁.extBut D.l1z) hx fun h₂ e hs₂ he=>?_);refine xa he fun o ho hc=>?_;clear he
 refine Zc (Jy (T := "StopIteration") (b:=true) ⟨o,ho,hc⟩ isSubtype_stop ?_);exact Zg (hQ _ fun c o c1 c2 c3 e=>hs₂ _ _ c2 (hs₁.extBut _ _ c1 e))
def zpz (h:Heap) (xs ys:Array Value) (ts:List Addr):Prop:=∀ (j:Nat) (t:Addr),ts[j]? = some t->∃ x y,xs[j]? = some x/\ys[j]? = some y/\IsPair h t x y
theorem zzm {R:Result->Shared->Prop} {S z TI TO i1 i2 l1 l2:Addr} {xs ys:Array Value} (res:Value) (hh:A.in1.handled=none) (D:ZA z TI i1 i2 l1 l2) (hxy:xs.size=ys.size) (hz:xs.size<=sizeLine) (hS:∀ b∈[z,TI,TO,i1,i2,l1,l2],S≠b) :
  ∀ (k i:Nat) (s:Shared) (acc:Array Value) (c:Nat) (ts:List Addr) (T:Addr) (f1:Bool),xs.size-i=k->i<=xs.size->IsZ2 s.heap z TI TO T f1->T∈ts->IsPair s.heap TI (.ref i1) (.ref i2)->s.heap.IsListIter i1 l1 i->s.heap.IsListIter i2 l2 i->s.heap.IsList l1 xs->s.heap.IsList l2 ys ->
   s.heap.get? S=some {cls:=.type "list", dict:=none,data:=.seq acc c,slots:=#[]}->acc.toList=ts.map Value.ref->ts.length=i->zpz s.heap xs ys ts->(∀ t∈ts,t≠z/\t≠i1/\t≠i2/\t≠S)->ts.Nodup ->
   (∀ h' tk acc' c' ts',(∀ b o,b≠S->b≠z->b≠i1->b≠i2->s.heap.get? b=some o->h'.get? b=some o)->h'.get? S=some {cls:=.type "list", dict:=none,data:=.seq acc' c',slots:=#[]}->acc'.toList=ts'.map Value.ref->ts'.length=xs.size->zpz h' xs ys ts'->(∀ t∈ts',t∈ts\/s.heap.objs.size<=t)->ts'.Nodup->R (.ok (.ret res)) {s with heap:=h',toks:=tk}) ->
   codeAny (model prog w) A (.builtin "list.extend.loop" ⟨[.ref S,.ref z,res],[]⟩) R s:=by
 intro k;have sz:S≠z:=hS z (by simp);have s1:S≠i1:=hS i1 (by simp);have s2:S≠i2:=hS i2 (by simp);have sT:S≠TI:=hS TI (by simp);have sl1:S≠l1:=hS l1 (by simp);have sl2:S≠l2:=hS l2 (by simp);induction k with
 | zero=>
  intro i s acc c ts T f1 hk hi hZ hT hTI h1 h2 hl1 hl2 hSo hac hlen hP hts hnd hR;have e:i=xs.size:=by omega
  subst e;refine We Uq ?_;rw [Yp Wq _];show wpAny _ A.in1 (pyNext (.ref z) >>= _) _ _ s;have aT:∃ o,s.heap.get? T=some o:=by
   refine xb (Yg hT) fun j hj=>?_;refine xc (hP j T hj) fun x y _ _ e=>?_;exact⟨_,e⟩
  refine Zc (zzn hh D hZ aT hTI h1 h2 hl1 hl2 (by simp) fun h' kp=>?_);exact Zg (hR h' s.toks acc c ts (fun b o _ b2 b3 b4 e=>kp b o b2 b3 b4 e) (kp S _ sz s1 s2 hSo) hac hlen (fun j t e=>by
   refine xc (hP j t e) fun x y e1 e2 e3=>?_;refine xk (hts t (Zn e)) fun t1 t2 t3 _=>?_;exact⟨x,y,e1,e2,kp t _ t1 t2 t3 e3⟩) (fun t ht=>.inl ht) hnd)
 | succ k ih=>
  intro i s acc c ts T f1 hk hi hZ hT hTI h1 h2 hl1 hl2 hSo hac hlen hP hts hnd hR;have hlt:i<xs.size:=by omega
  refine We Uq ?_;rw [Yp Wq _];show wpAny _ A.in1 (pyNext (.ref z) >>= _) _ _ s;have aT:∃ o,s.heap.get? T=some o:=by
   refine xb (Yg hT) fun j hj=>?_;refine xc (hP j T hj) fun x y _ _ e=>?_;exact⟨_,e⟩
  have hx:xs[i]? = some (xs[i]'hlt):=Zs hlt;have hy:ys[i]? = some (ys[i]'(by omega)):=Zs (by omega);refine Zc (ztz D hZ aT hTI h1 h2 hl1 hl2 hx hy fun h' a1 a2 a3 a4 a5 kp=>?_);have hS':=kp S _ sz s1 s2 hSo;have asz:acc.size=i:=by
   have:=congrArg List.length hac
   rw [Z4,Zd,hlen] at this;exact this
  have hSlt:S<s.heap.objs.size:=Zo hSo;show wpAny _ A.in1 (updateSeq S (·.push (.ref s.heap.objs.size)) >>= _) _ _ _;have up:∀ b o,b≠S->h'.get? b=some o->(h'.update S (Obj.mapSeq (·.push (.ref s.heap.objs.size)))).get? b=some o:=fun b o hb e=>(Z9 _ _ (Wh hb)).trans e
  have old:∀ {b o},s.heap.get? b=some o->b≠s.heap.objs.size:=fun e=>Z1 (Zo e)
  refine Zc ?_;refine W1 hS' rfl (Zg ⟨Wt Wq _,ih (i+1) _ (acc.push (.ref s.heap.objs.size)) _ (ts++[s.heap.objs.size]) T true (by omega) hlt (up z _ (Wh sz) a1) (Qc _ hT) (up TI _ (Wh sT) (kp TI _ D.TIz D.TIi1 D.TIi2 hTI)) (a2.at fun o e=>up i1 o (Wh s1) e) (a3.at fun o e=>up i2 o (Wh s2) e)
   (hl1.at fun o e=>up l1 o (Wh sl1) (kp l1 o D.l1z D.l1i1 D.l1i2 e)) (hl2.at fun o e=>up l2 o (Wh sl2) (kp l2 o D.l2z D.l2i1 D.l2i2 e)) (Yi _ hS' rfl) ?_ (by rw [Zq,hlen];rfl) ?_ ?_ ?_ ?_⟩) (by rw [asz];omega) (by show (acc.push _).size<=sizeLine+1;rw [Bn,asz];omega)
  ·rw [Kg,hac,Yk];rfl
  ·intro j t e;rcases Wg j ts.length with q | q
   ·rw [Z2 q] at e;refine xc (hP j t e) fun x y e1 e2 e3=>?_;refine xk (hts t (Zn e)) fun t1 t2 t3 t4=>?_;exact⟨x,y,e1,e2,up t _ t4 (kp t _ t1 t2 t3 e3)⟩
   ·rw [Zu q] at e;have e0:j-ts.length=0:=by
     cases q2:j-ts.length with
     | zero=>rfl
     | succ n=>rw [q2] at e;simp at e
    rw [e0] at e;simp at e
    subst e;have ej:j=i:=by omega
    subst ej;exact⟨_,_,hx,hy,up _ _ (Z8 hSlt) a4⟩
  ·intro t ht;rcases Yw.mp ht with ht | ht
   ·exact hts t ht
   ·rw [Zt.mp ht];refine⟨(old hZ).symm,?_,?_,(Z8 hSlt)⟩
    ·refine xa h1 fun _ e _=>?_;clear h1;exact (old e).symm
    ·refine xa h2 fun _ e _=>?_;clear h2;exact (old e).symm
  ·refine Uv.mpr ⟨hnd,Ka _ _,fun a ha b hb e=>?_⟩;rw [Zt.mp hb] at e;refine xb (Yg ha) fun j hj=>?_;refine xc (hP j a hj) fun x y _ _ e3=>?_;exact old e3 e
  ·intro h'' tk acc' c' ts' kp2 e1 e2 e3 e4 e5 e6;have sz2:(h'.update S (Obj.mapSeq (·.push (.ref s.heap.objs.size)))).objs.size=s.heap.objs.size+1:=by rw [Km,a5]
   refine hR h'' tk acc' c' ts' (fun b o b1 b2 b3 b4 e=>kp2 b o b1 b2 b3 b4 (up b o b1 (kp b o b2 b3 b4 e))) e1 e2 e3 e4 (fun t ht=>?_) e6;rcases e5 t ht with q | q
   ·rcases Yw.mp q with q | q
    ·exact .inl q
    ·exact .inr (by rw [Zt.mp q];exact Zh _)
   ·exact .inr (by
     have q':(h'.update S (Obj.mapSeq (·.push (.ref s.heap.objs.size)))).objs.size<=t:=q;rw [sz2] at q';exact Uz q')
theorem zsm:typeLookup (.type "zip") "__len__" = pure none:=by rw [Ki,Qb];kernel_rfl
theorem zoo:typeLookup (.type "zip") "__length_hint__" = pure none:=by rw [Ki,Qb];kernel_rfl
theorem ane {a b:Nat} (h:a≠b):@Ne Addr a b:=h
theorem za_of {n l1 l2:Nat} (h1:l1<n) (h2:l2<n):ZA (n+4) (n+2) n (n+1) l1 l2:=by
 refine⟨?_,?_,?_,?_,?_,?_,?_,?_,?_,?_,?_,?_⟩ <;> exact ane (by omega)
theorem zap_of {n l1 l2:Nat} (h1:l1<n) (h2:l2<n):ZipApart (n+4) (n+2) (n+3) n (n+1) l1 l2:=by
 refine⟨?_,?_,?_,?_,?_,?_,?_,?_,?_,?_,?_,?_,?_,?_,?_,?_,?_,?_⟩ <;> exact ane (by omega)
theorem zlj {z TI TO i1 i2 l1 l2:Addr} {xs ys:Array Value} {Q:Value->Shared->Prop} (hh:A.handled=none) (D:ZA z TI i1 i2 l1 l2) (DD:ZipApart z TI TO i1 i2 l1 l2) (hxy:xs.size=ys.size) (hz:xs.size<=sizeLine)
  (hZ:IsZip s.heap z TI TO .none) (hTI:IsPair s.heap TI (.ref i1) (.ref i2)) (hTO:IsPair s.heap TO .none .none) (h1:s.heap.IsListIter i1 l1 0) (h2:s.heap.IsListIter i2 l2 0) (hl1:s.heap.IsList l1 xs) (hl2:s.heap.IsList l2 ys)
  (hQ:∀ h' tk acc c ts,(∀ b o,b≠z->b≠TO->b≠i1->b≠i2->s.heap.get? b=some o->h'.get? b=some o)->h'.get? s.heap.objs.size=some {cls:=.type "list", dict:=none,data:=.seq acc c,slots:=#[]}->acc.toList=ts.map Value.ref->ts.length=xs.size->zpz h' xs ys ts->(∀ t∈ts,s.heap.objs.size<t)->ts.Nodup->Q (.ref s.heap.objs.size) {s with heap:=h',toks:=tk}) :
  wpAny (model prog w) A (call (.type "list") [.ref z]) Q E s:=by
 have old:∀ {b o},s.heap.get? b=some o->b<s.heap.objs.size:=fun e=>Zo e
 have zl:=old hZ;have TIl:=old hTI;have TOl:=old hTO;have i1l:i1<s.heap.objs.size:=by refine xa h1 fun _ e _=>?_;clear h1;exact old e
 have i2l:i2<s.heap.objs.size:=by refine xa h2 fun _ e _=>?_;clear h2;exact old e
 have l1l:l1<s.heap.objs.size:=by refine xa hl1 fun _ e _=>?_;clear hl1;exact old e
 have l2l:l2<s.heap.objs.size:=by refine xa hl2 fun _ e _=>?_;clear hl2;exact old e
 refine callType_codes (Q₁:=fun obj s₁=>obj=.ref s.heap.objs.size/\s₁={s with heap:=s.heap.push {cls:=.type "list", data:=.seq #[]} }) F.called_list (F.typeCall_list_1 _) F.entry_list_init
  (code_list_new _ ⟨rfl,rfl⟩) fun obj s₁ h₁=>?_
 refine xg h₁ fun qz0 qz1=>?_;clear h₁;subst qz0;subst qz1
 have hS:(s.heap.push {cls:=.type "list", data:=.seq #[]}).get? s.heap.objs.size=some {cls:=.type "list", data:=.seq #[]}:=Z3 _ rfl;refine⟨⟨_,hS,rfl⟩,F.args_list_init_2 _ _,?_⟩
 show wpAny _ A.in1.in1 (do let old <- Builtin.List.listItems (.ref s.heap.objs.size);Builtin.List.listUpdate (.ref s.heap.objs.size) (fun _=>#[]);letGo old.toList.reverse;Builtin.List.listExtendWith (.ref s.heap.objs.size) (.ref z) .none) _ _ _;refine Zc (Bc hS rfl ?_);refine Zc (Jp hS rfl ?_ (Ya _) (Ya _));have hS₂:=Yi (Obj.mapSeq (fun _=>(#[]:Array Value))) hS rfl;have hsz0:((s.heap.push {cls:=.type "list", data:=.seq #[]}).update s.heap.objs.size (Obj.mapSeq (fun _=>(#[]:Array Value)))).objs.size=s.heap.objs.size+1:=by rw [Km,K5]
 have oth:∀ b o,b<s.heap.objs.size->s.heap.get? b=some o->((s.heap.push {cls:=.type "list", data:=.seq #[]}).update s.heap.objs.size (Obj.mapSeq (fun _=>(#[]:Array Value)))).get? b=some o:=
  fun b o hb e=>(Z9 _ _ (Z8 hb)).trans (Zf _ e)
 refine Zc (Jn ?_);generalize hH1:(s.heap.push {cls:=.type "list", data:=.seq #[]}).update s.heap.objs.size (Obj.mapSeq (fun _=>(#[]:Array Value)))=H1 at *;unfold Builtin.List.listExtendWith;have hTy:Shared.TypeIs {s with heap:=H1} (.ref z) "zip" := ⟨_,oth z _ zl hZ,rfl⟩;refine Zc (Uf hTy ?_);have n1:Builtin.List.listSameRef (.ref s.heap.objs.size) (.ref z)=false:=by simp [Builtin.List.listSameRef,Z8 zl]
 rw [if_neg (by rw [n1];decide)];refine Zc (wpAny_pyIter_zip (oth z _ zl hZ) ?_);refine Zc (Yf ?_);unfold Builtin.List.listLengthHint;refine Zc (Qs hTy zsm ?_);show wpAny _ _ (specialOf (Value.ref z) (Str.ofString "__length_hint__") >>= _) _ _ _;refine Zc (Qs hTy zoo ?_);refine Zg ?_;show wpAny _ _ (rule "list.extend.makes-room" >>= fun _=>Builtin.List.listTouch (.ref s.heap.objs.size) >>= fun _=>again (.builtin "list.extend.loop" ⟨[.ref s.heap.objs.size,.ref z,.none],[]⟩)) _ _ _;refine Zc (Vi ?_);refine Zc ?_;show wpAny _ _ (updateSeq s.heap.objs.size (·.push .none) >>= fun _=>updateSeq s.heap.objs.size (·.pop)) _ _ _;refine Zc (W1 hS₂ rfl ?_);have hS₃:=Yi (Obj.mapSeq (·.push Value.none)) hS₂ rfl;refine W1 (hz:=by seq_fits) hS₃ rfl ?_;have hS₄:=Yi (Obj.mapSeq (·.pop)) hS₃ rfl;have oth2:∀ b o,b<s.heap.objs.size->s.heap.get? b=some o->((H1.update s.heap.objs.size (Obj.mapSeq (·.push Value.none))).update s.heap.objs.size (Obj.mapSeq (·.pop))).get? b=some o:=
  fun b o hb e=>(Z9 _ _ (Z8 hb)).trans ((Z9 _ _ (Z8 hb)).trans (oth b o hb e))
 have hsz2:((H1.update s.heap.objs.size (Obj.mapSeq (·.push Value.none))).update s.heap.objs.size (Obj.mapSeq (·.pop))).objs.size=s.heap.objs.size+1:=by rw [Km,Km];exact hsz0
 generalize hH2:(H1.update s.heap.objs.size (Obj.mapSeq (·.push Value.none))).update s.heap.objs.size (Obj.mapSeq (·.pop))=H2 at *;have S0:∃ c0,H2.get? s.heap.objs.size=some {cls:=.type "list", dict:=none,data:=.seq #[] c0,slots:=#[]}:=⟨_,hS₄⟩;refine xb S0 fun c0 S0=>?_;have z2:=oth2 z _ zl hZ;have TI2:=oth2 TI _ TIl hTI;have TO2:=oth2 TO _ TOl hTO;have g1:=h1.at fun o e=>oth2 i1 o i1l e
 have g2:=h2.at fun o e=>oth2 i2 o i2l e
 have gl1:=hl1.at fun o e=>oth2 l1 o l1l e
 have gl2:=hl2.at fun o e=>oth2 l2 o l2l e
 refine Zg ⟨Wt Wq _,We Uq ?_⟩;rw [Yp Wq _];show wpAny _ _ (pyNext (.ref z) >>= _) _ _ _;rcases Wm xs.size with e0 | e0
 ·refine Zc (wpAny_pyNext_zip_end (by simp [hh]) DD z2 TI2 TO2 g1 g2 gl1 gl2 (.inl (by simp [e0])) fun h' kp=>?_);exact Zg ⟨rfl,hQ h' s.toks #[] c0 [] (fun b o b1 b2 b3 b4 e=>kp b o b1 b2 b3 b4 (oth2 b o (old e) e)) (kp _ _ (Z8 zl) (Z8 TOl) (Z8 i1l) (Z8 i2l) S0) rfl (by rw [e0];rfl) (fun j t e=>by simp at e) (fun t ht=>by cases ht) Ua⟩
 ·have hx:xs[0]? = some (xs[0]'e0):=Zs e0;have hy:ys[0]? = some (ys[0]'(by omega)):=Zs (by omega);refine Zc (wpAny_pyNext_zip_item DD z2 TI2 TO2 g1 g2 gl1 gl2 hx hy fun h' a1 a2 a3 a4 a5 a6 kp=>?_);replace a1:IsZ2 h' z TI TO H2.objs.size false:=a1
  replace a5:IsPair h' H2.objs.size (xs[0]'e0) (ys[0]'(by omega)):=a5
  replace a6:h'.objs.size=H2.objs.size+1:=a6
  show wpAny _ _ (updateSeq s.heap.objs.size (·.push (.ref H2.objs.size)) >>= _) _ _ _;rw [hsz2] at a1 a5 a6 |-;have S1:=kp _ _ (Z8 zl) (Z8 TOl) (Z8 i1l) (Z8 i2l) S0;refine Zc ?_;have up:∀ b o,b≠s.heap.objs.size->h'.get? b=some o->(h'.update s.heap.objs.size (Obj.mapSeq (·.push (.ref (s.heap.objs.size+1))))).get? b=some o:=fun b o hb e=>(Z9 _ _ (Wh hb)).trans e
  have ne:∀ {b:Addr},b<s.heap.objs.size->b≠s.heap.objs.size:=fun h=>Z1 h
  refine W1 S1 rfl (Zg ⟨Wt Wq _,zzm .none (by simp [hh]) D hxy hz (fun b hb=>?_) (xs.size-1) 1 _ _ _ [s.heap.objs.size+1] (s.heap.objs.size+1) false rfl e0 (up z _ (ne zl) a1) (.head _) (up TI _ (ne TIl) (kp TI _ DD.TIz DD.TITO DD.TIi1 DD.TIi2 TI2)) (a3.at fun o e=>up i1 o (ne i1l) e) (a4.at fun o e=>up i2 o (ne i2l) e)
   (gl1.at fun o e=>up l1 o (ne l1l) (kp l1 o DD.l1z DD.l1TO DD.l1i1 DD.l1i2 e)) (gl2.at fun o e=>up l2 o (ne l2l) (kp l2 o DD.l2z DD.l2TO DD.l2i1 DD.l2i2 e)) (Yi _ S1 rfl) rfl rfl (fun j t e=>?_) (fun t ht=>?_) (Ka _ _) fun h'' tk acc' c' ts' kp2 e1 e2 e3 e4 e5 e6=>?_⟩)
  ·simp only [Zi,W2,or_false] at hb;rcases hb with e | e | e | e | e | e | e <;> rw [e]
   ·exact Z8 zl
   ·exact Z8 TIl
   ·exact Z8 TOl
   ·exact Z8 i1l
   ·exact Z8 i2l
   ·exact Z8 l1l
   ·exact Z8 l2l
  ·cases j with
   | zero=>
    simp at e
    subst e;exact⟨_,_,hx,hy,up _ _ (U9 _) a5⟩
   | succ j=>simp at e
  ·rw [Zt.mp ht];exact⟨Z8 (Wo zl),Z8 (Wo i1l),Z8 (Wo i2l),U9 _⟩
  ·refine⟨rfl,hQ h'' tk acc' c' ts' (fun b o b1 b2 b3 b4 e=>kp2 b o (ne (old e)) b1 b3 b4 (up b o (ne (old e)) (kp b o b1 b2 b3 b4 (oth2 b o (old e) e)))) e1 e2 e3 e4 (fun t ht=>?_) e6⟩
   rcases e5 t ht with q | q
   ·rw [Zt.mp q];exact Q6 _
   ·have q':(h'.update s.heap.objs.size (Obj.mapSeq (·.push (.ref (s.heap.objs.size+1))))).objs.size<=t:=q;rw [Km,a6] at q';exact Zp (Wo (Q6 _)) q'
end
end DL
namespace DL
open PySem L2 PyProof.Rows
noncomputable def updL (H:Hp):List (Addr×HO)->Hp
 | []=>H
 | (a,o)::L=>upd (updL H L) a o
theorem zjj {H:Hp}:∀ {L:List (Addr×HO)} {a:Addr} {o:HO},updL H L a=some o->(a,o)∈L\/(H a=some o/\a∉L.map (·.1))
 | [],a,o,h=>.inr ⟨h,by simp⟩
 | (b,u)::L,a,o,h=>by
  unfold updL at h;by_cases e:a=b
  ·subst e;rw [Bz] at h;cases h;exact .inl (.head _)
  ·rw [B3 e] at h;rcases zjj h with q | q
   ·exact .inl (.tail _ q)
   ·exact .inr ⟨q.1,by simp only [Zv,Zi,not_or];exact⟨e,q.2⟩⟩
theorem zck {H:Hp}:∀ {L:List (Addr×HO)} {a:Addr},a∉L.map (·.1)->updL H L a=H a
 | [],_,_=>rfl
 | (b,u)::L,a,h=>by
  simp only [Zv,Zi,not_or] at h;unfold updL;rw [B3 h.1];exact zck h.2
theorem zui {H:Hp}:∀ {L:List (Addr×HO)} {a:Addr} {o:HO},(L.map (·.1)).Nodup->(a,o)∈L->updL H L a=some o
 | (b,u)::L,a,o,nd,h=>by
  rw [Zv,Wa] at nd;unfold updL;rcases Zi.mp h with e | h
  ·cases e;rw [Bz]
  ·have ne:a≠b:=fun e=>nd.1 (e ▸ Z6 (f:=(·.1)) h)
   rw [B3 ne];exact zui nd.2 h
section
variable {X:Cx} {pins:List (Addr×Obj)} {σ:L2.St} {H:Hp} {s:Shared} {h':Heap}
theorem Inv.laidL {t':Nat} {L:List (Addr×HO)} (I:L2.Inv X pins σ H s) (k:∀ b u,s.heap.get? b=some u->h'.get? b=some u) (hp:∀ p∈L,s.heap.objs.size<=p.1) (new:∀ p∈L,ObjOk X.prog X.w (updL H L) h' p.1 p.2) :
  L2.Inv X pins σ (updL H L) {s with heap:=h',toks:=t'}:=by
 have notL:∀ b,(∃ u,s.heap.get? b=some u)->b∉L.map (·.1):=fun b ⟨u,e⟩ hm=>by
  refine xa (Zz.mp hm) fun p hpm qz2=>?_;subst qz2
  exact Nat.lt_irrefl _ (Zp (Zo e) (hp p hpm))
 have Hn:∀ p∈L,H p.1=none:=fun p hpm=>I.hok.fresh (hp p hpm)
 have keepH:∀ b u,H b=some u->updL H L b=some u:=fun b u e=>by
  rw [zck fun hm=>by
   refine xa (Zz.mp hm) fun p hpm qz2=>?_;subst qz2
   rw [Hn p hpm] at e;cases e]
  exact e
 refine I.un (t':=t') ⟨fun b u q _ _ _=>k b u q,fun b u q _ _ _=>⟨u.slots,k b u q⟩,fun b u q n _=>by rw [zck (notL b ⟨u,q⟩)];exact n,fun b u q _=>⟨u,k b u q⟩,fun b xs q=>keepH b _ q,fun b u xs q=>keepH b _ q,fun b ps q=>⟨#[],by rw [keepH b _ q];simp⟩⟩ fun a o e=>?_;rcases zjj e with q | ⟨q,_⟩
 ·exact new _ q
 ·exact (I.hok a o q).stay (fun c v _ z=>k c v z) (fun c z=>keepH c _ z) fun c xs z=>keepH c _ z
end
section
variable {K:PySem.W.Frag} {H0 Fc F H:Hp} {σ:L2.St} {ρ:Rho}
theorem ER.layL:∀ (L:List (Addr×HO)),ER K H0 Fc F H σ ρ->(L.map (·.1)).Nodup->(∀ p∈L,H p.1=none)->ER K H0 Fc (updL F L) (updL H L) σ ρ/\Same F (updL F L)
 | [],R,_,_=>⟨R,Same.refl _⟩
 | (a,o)::L,R,nd,hn=>by
  rw [Zv,Wa] at nd;refine xg (ER.layL L R nd.2 fun p hp=>hn p (.tail _ hp)) fun R1 s1=>?_;refine xg (R1.lay (a:=a) o (by rw [zck nd.1];exact hn (a,o) (.head _))) fun R2 s2=>?_;exact⟨R2,s1.trans s2⟩
end
noncomputable def zipD (a b:List D):List D:=(a.zip b).map fun p=>D.tup [p.1,p.2]
noncomputable def zipL (ts:List Addr) (ps:List (V×V)):List (Addr×HO):=(ts.zip ps).map fun z=>(z.1,HO.tup [z.2.1,z.2.2])
theorem zqa {ts:List Addr} {ps:List (V×V)} (h:ts.length=ps.length):(zipL ts ps).map (·.1)=ts:=by
 unfold zipL;rw [W6];show (ts.zip ps).map (fun z=>z.1)=ts;exact List.map_fst_zip (by omega)
theorem zxy {K:PySem.W.Frag} {F:Hp}:∀ {a b:List D} {xs ys:List V} {ts:List Addr} {G:Hp},DenL K F a xs->DenL K F b ys->xs.length=ys.length->ts.length=xs.length->Same F G->(∀ p∈zipL ts (xs.zip ys),G p.1=some p.2)->DenL K G (zipD a b) (ts.map V.ref)
 | [],b,xs,ys,ts,G,h1,h2,e1,e2,s,hG=>by
  have z:=h1.inv_nil;subst z;have:ts=[]:=Vz.mp (by simpa using e2)
  subst this;exact DenL.nil
 | d::a,b,xs,ys,ts,G,h1,h2,e1,e2,s,hG=>by
  refine xc h1.inv_cons fun v vs z q r=>?_;subst z;cases b with
  | nil=>rw [h2.inv_nil] at e1;cases e1
  | cons d2 b=>
   refine xc h2.inv_cons fun v2 vs2 z2 q2 r2=>?_;subst z2;cases ts with
   | nil=>cases e2
   | cons t ts=>
    have g0:=hG (t,HO.tup [v,v2]) (.head _);refine DenL.cons (Den.tup_mk (SqT.of g0) (DenL.cons (q.mono s) (DenL.cons (q2.mono s) DenL.nil))) ?_;exact zxy r r2 (by simpa using e1) (by simpa using e2) s fun p hp=>hG p (.tail _ hp)
theorem zoq:∀ {xs:List V} {us:List Value},Vals xs us->∀ (j:Nat) (u:Value),us[j]? = some u->∃ x,xs[j]? = some x/\RelV x u
 | [],_,h,j,u,e=>by cases h;simp at e
 | x::xs,_,h,0,u,e=>by
  cases h with
  | cons h1 h2=>simp at e;subst e;exact⟨x,rfl,h1⟩
 | x::xs,_,h,j+1,u,e=>by
  cases h with
  | cons h1 h2=>
   refine xa (zoq h2 j u (by simpa using e)) fun y e1 e2=>?_;exact⟨y,by simpa using e1,e2⟩
theorem zqg:∀ ts:List Addr,Vals (ts.map V.ref) (ts.map Value.ref)
 | []=>.nil
 | t::ts=>.cons rfl (zqg ts)
section
variable {X:Cx}
theorem ybg {a b:List D} (hX:X.calm=true) (hab:a.length=b.length):zon X (.type "list") (.type "zip") [.lst a,.lst b] (.new (zipD a b)):=by
 refine⟨fun vs H Q=>∃ p q xs ys,vs=[.ref p,.ref q]/\SqL X.K H p xs/\SqL X.K H q ys/\xs.length=ys.length/\∀ (l:Addr) (ts:List Addr),ts.length=xs.length->(l::ts).Nodup->(∀ t∈l::ts,H t=none)->Q (.ref l) (upd (updL H (zipL ts (xs.zip ys))) l (.lst (ts.map V.ref))),fun pins s σ H vs us Q I r h=>?_,fun H0 Fc H F σ ρ vs Q R q k=>?_⟩
 ·refine xD h fun p q xs ys qz4 hl1 hl2 hxy hq=>?_;clear h;subst qz4
  cases r with
  | cons r1 r=>
   cases r with
   | cons r2 r=>
    cases r;cases r1;cases r2;refine xh (I.list hl1) fun its1 v1 pl1 z1=>?_;refine xh (I.list hl2) fun its2 v2 pl2 z2=>?_;have n1:=v1.length;have n2:=v2.length;have lp:p<s.heap.objs.size:=by refine xa pl1.isList fun o ho _=>?_;exact Zo ho
    have lq:q<s.heap.objs.size:=by refine xa pl2.isList fun o ho _=>?_;exact Zo ho
    refine call_zip_2 pl1.isList pl2.isList fun h1 g1 g2 g3 g4 g5 g6 kp1=>?_;refine zlj (s:={s with heap:=h1}) (I.ok.hd hX) (za_of lp lq) (zap_of lp lq) (by simp only [Zr];omega) (by simp only [Zr];omega) g1 g2 g3 g4 g5 (pl1.isList.at fun o e=>kp1 _ o e) (pl2.isList.at fun o e=>kp1 _ o e) fun h2 tk acc c ts kp2 e1 e2 e3 e4 e5 e6=>?_;have sz1:∀ n:Nat,(s.heap.objs.size+n:Addr)≠s.heap.objs.size\/n=0:=fun n=>by
     rcases Wm n with z | z
     ·exact .inr z
     ·exact .inl (ane (by omega))
    have le:s.heap.objs.size<=h1.objs.size:=by rw [g6];exact Va _ _
    have tl:ts.length=xs.length:=by rw [e3,Zr,<- n1]
    have kp:∀ b u,s.heap.get? b=some u->h2.get? b=some u:=fun b u e=>by
     have hb:=Zo e;exact kp2 b u (Z1 (Zp hb (Va _ 4))) (Z1 (Zp hb (Va _ 3))) (Z1 hb) (Z1 (Wo hb)) (kp1 b u e)
    have hLs:∀ t∈h1.objs.size::ts,s.heap.objs.size<=t:=fun t ht=>by
     rcases Zi.mp ht with e | ht
     ·rw [e];exact le
     ·exact Y3 le (Kk (e5 t ht))
    have nd:(h1.objs.size::ts).Nodup:=Wa.mpr ⟨fun hm=>Nat.lt_irrefl _ (e5 _ hm),e6⟩;have zl:(xs.zip ys).length=xs.length:=by rw [Ve];omega
    have fst:(zipL ts (xs.zip ys)).map (·.1)=ts:=zqa (by rw [zl];exact tl);have hsize:∀ t∈ts,t∈(zipL ts (xs.zip ys)).map (·.1):=fun t ht=>by rw [fst];exact ht
    show EP X pins σ Q (.ref h1.objs.size) {s with heap:=h2,toks:=tk};refine⟨.ref h1.objs.size,updL H ((h1.objs.size,HO.lst (ts.map V.ref))::zipL ts (xs.zip ys)),Inv.laidL (t':=tk) I kp (fun pr hpr=>?_) (fun pr hpr=>?_),rfl,hq _ ts tl nd fun t ht=>I.hok.fresh (hLs t ht)⟩
    ·refine hLs _ ?_;rcases Zi.mp hpr with e | hm
     ·rw [e];exact .head _
     ·exact .tail _ (by rw [<- fst];exact Z6 hm)
    ·rcases Zi.mp hpr with e | hm
     ·rw [e];show ObjOk X.prog X.w _ h2 _ (.lst (ts.map V.ref));refine⟨by rw [Zd,tl];exact z1,ts.map Value.ref,c,zqg ts,?_⟩
      have:acc=(ts.map Value.ref).toArray:=by apply Kl.mp;rw [e2]
      rw [<- this];exact e1
     ·unfold zipL at hm;refine xa (Zz.mp hm) fun zz hz e=>?_;refine xb (Yg hz) fun j hj=>?_;rw [K2] at hj;refine xg hj fun j1 j2=>?_;clear hj
      rw [K2] at j2;refine xc (e4 j zz.1 j1) fun x y x1 x2 x3=>?_;refine xa (zoq v1 j x (by simpa using x1)) fun vx ex rx=>?_;refine xa (zoq v2 j y (by simpa using x2)) fun vy ey ry=>?_;rw [j2.1] at ex;rw [j2.2] at ey;cases ex;cases ey;rw [<- e];show ObjOk X.prog X.w _ h2 zz.1 (.tup [zz.2.1,zz.2.2]);exact⟨by show 2<=sizeLine;decide,[x,y],.cons rx (.cons ry .nil),_,x3,rfl,0,rfl⟩
 ·refine xc q.two fun v u e q1 q2=>?_;refine xc q1.lst fun p xs e1 sq1 d1=>?_;refine xc q2.lst fun p2 ys e2 sq2 d2=>?_;rw [e1,e2] at e;have l1:=d1.length;have l2:=d2.length;refine⟨p,p2,xs,ys,e,R.sub.seq sq1,R.sub.seq sq2,by omega,fun l ts tl nd hn=>?_⟩
  rw [Wa] at nd;have zl:(xs.zip ys).length=xs.length:=by rw [Ve];omega
  have fst:(zipL ts (xs.zip ys)).map (·.1)=ts:=zqa (by rw [zl];exact tl);have hnL:∀ pr∈zipL ts (xs.zip ys),H pr.1=none:=fun pr hpr=>hn _ (.tail _ (by rw [<- fst];exact Z6 hpr))
  refine xg (ER.layL (zipL ts (xs.zip ys)) R (by rw [fst];exact nd.2) hnL) fun R1 s1=>?_;have hl:updL H (zipL ts (xs.zip ys)) l=none:=by
   rw [zck (by rw [fst];exact nd.1)];exact hn l (.head _)
  refine xj (R1.put (.lst (ts.map V.ref)) hl) fun R4 hF h0=>?_;refine k _ _ _ s1 R4 (RW.n hF h0 Bz ?_);exact zxy d1 d2 (by omega) tl s1 fun pr hpr=>zui (by rw [fst];exact nd.2) hpr
end
end DL
namespace DL
open PySem L2 PyProof.Rows
section
variable {prog:Program} {w:World} {A:Around} {E:Value->Shared->Prop} {s:Shared}
theorem yfg {it t:Addr} {items:Array Value} (hne:t≠it):∀ (n i:Nat) (s:Shared) (Q:List Value->Shared->Prop),s.heap.IsListIter it t i->s.heap.IsList t items->i+n<=items.size ->
  (∀ h',h'.IsListIter it t (i+n)->Heap.SameBut it s.heap h'->Q ((items.toList.drop i).take n) {s with heap:=h'})->wpAny (model prog w) A (draw (.ref it) n) Q E s
 | 0,i,s,Q,hit,_,_,hQ=>by
  show wpAny _ _ (pure []) Q E s;exact Zg (by simpa using hQ s.heap hit ⟨rfl,fun _ _=>rfl⟩)
 | n+1,i,s,Q,hit,ht,hle,hQ=>by
  have hlt:i<items.size:=by omega
  show wpAny _ _ (pyNext (.ref it) >>= _) Q E s;refine Zc (Gz hit ht (x:=items[i]) (by simp [hlt]) fun h₁ a₁ b₁=>?_);refine Zc (Yf (yfg hne n (i+1) _ _ a₁ (ht.extBut b₁.extBut hne) (by omega) fun h₂ a₂ b₂=>Zg ?_));have e0:items.toList.drop i=items[i]::items.toList.drop (i+1):=by simp [Wp,hlt]
  have q:=hQ h₂ (by rw [show i+(n+1)=i+1+n by omega];exact a₂) (b₁.trans b₂);rw [e0,List.take_succ_cons] at q;exact q
theorem zzr {t:Addr} {items:Array Value} {Q:List Value->Shared->Prop} (hh:A.handled=none) (ht:s.heap.IsList t items)
  (hQ:∀ h',Heap.ExtBut s.heap.objs.size s.heap h'->Q items.toList {s with heap:=h'}):wpAny (model prog w) A (unpackItems (.ref t) items.size none) Q E s:=by
 have hlt:t≠s.heap.objs.size:=by refine xa ht fun o ho _=>?_;clear ht;exact Z1 (Zo ho)
 unfold unpackItems;refine Zc ?_
 ·unfold notIterableAtAll;refine Zc (Qs ht.typeIs slot_list_iter.lookup ?_);refine Zg ?_;simp only [Zx,if_false];refine Zc (Yf (Jh ht ?_));refine Zc (Yf (yfg hlt items.size 0 _ _ ⟨_,Z3 _ rfl,rfl,rfl⟩ (ht.push _) (by omega) fun h₁ a₁ b₁=>?_));have al:List.take items.size (List.drop 0 items.toList)=items.toList:=by
   rw [Ub];exact Jf (by simp)
  rw [al,if_neg (by simp)];have t₁:h₁.IsList t items:=(ht.push _).extBut b₁.extBut hlt;refine Zc (Yf (G9 hh a₁ t₁ (by simp) fun h₂ e₂=>?_));simp only [Option.isSome_none,Zx,if_false];exact Zg (hQ h₂ fun b o hb e=>e₂ b o hb (b₁.extBut b o hb (Zf _ e)))
theorem ydl {env:Env} {elts:List Expr} {x1} {pos:Pos} {t:Addr} {items:Array Value} {Q:Unit->Shared->Prop} (hh:A.handled=none) (ht:s.heap.IsList t items)
  (hn:(assignEach elts env).length=items.size) (hst:(assignEach elts env).findIdx? (·.1)=none)
  (h:∀ h',Heap.ExtBut s.heap.objs.size s.heap h'->wpAny (model prog w) A (assignInOrder ((assignEach elts env).map (·.2)) items.toList) Q E {s with heap:=h'}) :
  wpAny (model prog w) A (assign (.Tuple elts x1 pos) env (.ref t)) Q E s:=by
 rw [PyProof.Rows.assign_Tuple];refine Zc (Jm ?_);unfold unpack;rw [hn,hst];exact Zc (Yf (zzr hh ht h))
end
section
variable {X:Cx} {pos:Pos}
noncomputable def gLst (K:PySem.W.Frag) (n:Nat) (t:TGs):TG:=fun v σ H Q=>∃ a xs,v=.ref a/\SqL K H a xs/\xs.length=n/\t xs σ H Q
theorem pg_lst {es:List Expr} {k:Nat} {t:TGs} {n:Nat} (hc:X.calm=true) (h:PGs X es t) (hn:(assignEach es X.env).length=n) (hst:(assignEach es X.env).findIdx? (·.1)=none):PG X (.Tuple es k pos) (gLst X.K n t):=by
 intro pins s σ H v u Q I r hw;obtain⟨a,xs,e1,hq,hl,hw⟩:=hw
 subst e1;cases r;obtain⟨its,rv,ht,hz⟩:=I.list hq
 refine ydl (I.ok.hd hc) ht.isList (by simp [hn,<- hl,rv.length]) hst fun h' hx=>?_;have I1:Inv X pins σ H {s with heap:=h'}:=I.kept (t':=s.toks) fun b o e=>hx b o (Z1 (Zo e)) e
 exact h pins _ σ H xs _ Q I1 (by simpa using rv) hw
theorem DG.lst {ts:List Expr} {ds:List D} {ρ ρ':RhoS} {k} (hc:X.calm=true) (h:DGs X ts ds ρ ρ') (hs:ts.all Bs=true) (hl:ds.length=ts.length):DG X (.Tuple ts k pos) (.lst ds) ρ ρ':=fun H0 Fc=>
 PG.mono (pg_lst (n:=ts.length) hc (h H0 Fc) (zaf hs).1 (zaf hs).2) fun v σ H Q hz=>xh hz fun F S q k=>by
  refine xc q.lst fun a xs e sq r=>?_;exact⟨a,xs,e,S.sub.seq sq,by rw [r.length];exact hl,F,S,r,k⟩
end
end DL
namespace DL
open PySem L2 PyProof.Rows
open PySem.SeqAt (EqAt)
def LtAt (A:Around) (s:Shared) (y x:Value) (b:Bool):Prop:=
 ∀ (prog:Program) (w:World) (E:Value->Shared->Prop) (Q:Value->Shared->Prop),Q (.bool b) s->wpAny (model prog w) A (richCompare .Lt y x) Q E s
noncomputable def fstD (e0 r0 e1 r1:Bool):Bool:=if e0=true then (if e1=true then false else r1) else r0
theorem two_lt {l b:Addr} {x0 x1 y0 y1:Value} {n n2:Nat} {dd dd2:Option Addr} {sl sl2:Array (Option Value)} (e0 r0 e1 r1:Bool) :
  Meets (Builtin.«tuple.__lt__» ⟨[.ref l,.ref b],[]⟩)
   (fun A R s=>s.heap.get? l=some {cls:=.type "tuple", dict:=dd,data:=.seq #[x0,x1] n,slots:=sl}/\s.heap.get? b=some {cls:=.type "tuple", dict:=dd2,data:=.seq #[y0,y1] n2,slots:=sl2} /\
    EqAt A.in1 s x0 y0 e0/\(e0=false->LtAt A.in1 s x0 y0 r0)/\(e0=true->EqAt A.in1 s x1 y1 e1/\(e1=false->LtAt A.in1 s x1 y1 r1)) /\
    R (.ok (.ret (.bool (fstD e0 r0 e1 r1)))) s):=
 .of_wp fun prog w A R s h=>by
  obtain⟨hp,g,d,tk,os⟩:=s;obtain⟨hl,hb,h1,h2,h3,h⟩:=h
  have f2:=AutoSeq1.sub_tuple_tuple;wp_walk using Vc hl,Vc hb,Jz _ (fun rest b s'=>b.1=none/\s'=⟨hp,g,d,tk,os⟩ /\
   ((rest=[(x0,y0),(x1,y1)])\/(rest=[(x1,y1)]/\e0=true)\/(rest=[]/\e0=true/\e1=true))) _
  case turn=>
   rintro⟨y,x⟩ rest b s' ⟨hb',rfl,hz⟩
   rcases hz with hz | ⟨hz,q0⟩ | ⟨hz,_⟩
   ·cases hz;refine Zc (h1 prog w _ _ ?_);cases e0 with
    | true=>wp_walk;exact⟨rfl,rfl,.inr (.inl ⟨rfl,rfl⟩)⟩
    | false=>
     refine Zc (Vi (Zc (h2 rfl prog w _ _ ?_)));wp_walk
     exact⟨_,rfl,h⟩
   ·cases hz;subst q0;refine xg (h3 rfl) fun h3 h4=>?_;refine Zc (h3 prog w _ _ ?_);cases e1 with
    | true=>wp_walk;exact⟨rfl,rfl,.inr (.inr ⟨rfl,rfl,rfl⟩)⟩
    | false=>
     refine Zc (Vi (Zc (h4 rfl prog w _ _ ?_)));wp_walk
     exact⟨_,rfl,h⟩
   ·cases hz
  case fin=>
   rintro⟨b1,b2⟩ s' ⟨hb',rfl,hz⟩
   simp only at hb'
   subst hb';rcases hz with hz | ⟨hz,_⟩ | ⟨_,q0,q1⟩
   ·cases hz
   ·cases hz
   ·subst q0;subst q1;wp_walk
    exact⟨_,rfl,h⟩
  case h=>exact⟨rfl,rfl,.inl rfl⟩
theorem Reads.tup2 {h:Heap} {v:Value} {x y:PyData} {as:List Addr} (r:Reads h v (.tuple [x,y]) as):∃ l o u w n bs cs,v=.ref l/\h.get? l=some o/\o.cls=.type "tuple" /\ o.data=.seq #[u,w] n/\Reads h u x bs/\Reads h w y cs:=by
 cases r with
 | tuple h1 h2 h3 h4=>
  rename_i a o vs n;generalize e:vs.toList=us at h4;cases h4 with
  | cons r1 r2=>
   cases r2 with
   | cons r2 r3=>
    cases r3;skip
    refine⟨a,o,_,_,n,_,_,rfl,h1,h2,?_,r1,r2⟩
    rw [h3];congr 1
    exact Kl.mp (by rw [e])
section
variable {A:Around} {s:Shared}
theorem yij {i j:Int} {t u:Tok}:LtAt A s (.int i t) (.int j u) (decide (i<j)):=fun prog w E Q h=>(PyProof.Rows.lt_int h:wpAny (model prog w) A (compareOp .Lt (.int i t) (.int j u)) Q E s)
theorem yeq {v u:Value} {x0 x1 y0 y1:PyData} {as bs:List Addr} {e0 r0 e1 r1:Bool} (hv:Reads s.heap v (.tuple [x0,x1]) as) (hw:Reads s.heap u (.tuple [y0,y1]) bs) (hu:A.units<cLine)
  (h0:∀ v u as bs,Reads s.heap v x0 as->Reads s.heap u y0 bs->EqAt A.in1 s v u e0/\LtAt A.in1 s v u r0) (h1:∀ v u as bs,Reads s.heap v x1 as->Reads s.heap u y1 bs->EqAt A.in1 s v u e1/\LtAt A.in1 s v u r1):LtAt A s v u (fstD e0 r0 e1 r1):=by
 intro prog w E Q h;obtain⟨l,⟨cls,dd,data,sl⟩,p0,p1,n,_,_,rfl,gl,hc,hd,ra,rb⟩:=Reads.tup2 hv
 obtain⟨b,⟨cls2,dd2,data2,sl2⟩,q0,q1,n2,_,_,rfl,gb,hc2,hd2,rc,rd⟩:=Reads.tup2 hw
 simp only at hc hd hc2 hd2
 subst hc hd hc2 hd2;exact richCompare_meets_room (op:=.Lt) ⟨_,gl,rfl⟩ ⟨_,gb,rfl⟩ F.slot_tuple_lt F.entry_tuple_lt (F.args_tuple_lt_2 _ _) (two_lt (dd:=dd) (dd2:=dd2) (sl:=sl) (sl2:=sl2) (n:=n) (n2:=n2) e0 r0 e1 r1)
  ⟨gl,gb,(h0 _ _ _ _ ra rc).1,fun _=>(h0 _ _ _ _ ra rc).2,fun _=>⟨(h1 _ _ _ _ rb rd).1,fun _=>(h1 _ _ _ _ rb rd).2⟩,show Value.bool (fstD e0 r0 e1 r1)≠Value.notImplemented/\Q (.bool (fstD e0 r0 e1 r1)) s from⟨(fun x=>nomatch x),h⟩⟩ hu
noncomputable def lt2 (a c b d:Int):Bool:=fstD (a == b) (decide (a<b)) (c == d) (decide (c<d))
noncomputable abbrev pd2 (a c:Int):PyData:=.tuple [.int a,.int c]
theorem yer {v u:Value} {a c b d:Int} {as bs:List Addr} (hv:Reads s.heap v (pd2 a c) as) (hw:Reads s.heap u (pd2 b d) bs) (hu:A.units<cLine):LtAt A s v u (lt2 a c b d):=by
 refine yeq hv hw hu (fun v u as bs r1 r2=>?_) fun v u as bs r1 r2=>?_
 all_goals
  cases r1;cases r2
  exact⟨SeqAt.EqAt.int_int _ _ _ _,yij⟩
theorem yfe {v u:Value} {a c b d:Int} {as bs:List Addr} (hv:Reads s.heap v (pd2 a c) as) (hw:Reads s.heap u (pd2 b d) bs) (hu:A.units+2<cLine):EqAt A s v u (a == b && c == d):=by
 have h:=G2 (pd2 a c) (pd2 b d) A s v u as bs hv hw (by simp [PyData.canLay0,PyData.canLayAll0]) (by simp [PyData.canLay0,PyData.canLayAll0]) (by simp only [PyData.depth,PyData.depthAll];omega);simpa [PyData.eqv,PyData.eqvAll] using h
end
noncomputable def tupO:D->Option (List D)
 | .tup l=>some l
 | _=>none
noncomputable def intO:D->Option Int
 | .int i=>some i
 | _=>none
noncomputable def twoO:List D->Option (D×D)
 | [a,b]=>some (a,b)
 | _=>none
noncomputable def prI (d:D):Option (Int×Int):=(tupO d).bind fun l=>(twoO l).bind fun p=>(intO p.1).bind fun a=>(intO p.2).map fun c=>(a,c)
noncomputable def nst (d:D):Option (Int×Int×Int×Int):=(tupO d).bind fun l=>(twoO l).bind fun p=>(prI p.1).bind fun x=>(prI p.2).map fun y=>(x.1,x.2,y.1,y.2)
theorem ydu {d:D} {l:List D} (h:tupO d=some l):d=.tup l:=by cases d <;> first | (cases h;rfl) | (cases h;done)
theorem yey {d:D} {i:Int} (h:intO d=some i):d=.int i:=by cases d <;> first | (cases h;rfl) | (cases h;done)
theorem ydt {l:List D} {p:D×D} (h:twoO l=some p):l=[p.1,p.2]:=by
 cases l with
 | nil=>cases h
 | cons a l=>
  cases l with
  | nil=>cases h
  | cons b l=>
   cases l with
   | nil=>cases h;rfl
   | cons _ _=>cases h
theorem prI_s {d:D} {x:Int×Int} (h:prI d=some x):d=.tup [.int x.1,.int x.2]:=by
 refine xa (Za.mp h) fun l h1 h=>?_;refine xa (Za.mp h) fun p h2 h=>?_;refine xa (Za.mp h) fun a h3 h=>?_;refine xa (Zb.mp h) fun c h4 h=>?_;rw [ydu h1,ydt h2,yey h3,yey h4,<- h]
noncomputable def lt4:Int×Int×Int×Int->Int×Int×Int×Int->Bool
 | (a,c,b,d),(a',c',b',d')=>fstD (a == a' && c == c') (lt2 a c a' c') (b == b' && d == d') (lt2 b d b' d')
noncomputable def ltN (x y:D):Bool:=match nst x,nst y with
 | some p,some q=>lt4 p q
 | _,_=>false
theorem yhz {x:D} {p:Int×Int×Int×Int} (h:nst x=some p):toP x=.tuple [pd2 p.1 p.2.1,pd2 p.2.2.1 p.2.2.2]/\dOk 49 x=true:=by
 refine xa (Za.mp h) fun l h1 h=>?_;refine xa (Za.mp h) fun q h2 h=>?_;refine xa (Za.mp h) fun a h3 h=>?_;refine xa (Zb.mp h) fun c h4 h=>?_;rw [ydu h1,ydt h2,prI_s h3,prI_s h4,<- h];exact⟨by simp [toP,toPs],by simp [dOk,dOkL]⟩
theorem lt_nst {A:Around} {s:Shared} {v u:Value} {x y:D} {p q:Int×Int×Int×Int} {as bs:List Addr} (hx:nst x=some p) (hy:nst y=some q) (hv:Reads s.heap v (toP x) as) (hw:Reads s.heap u (toP y) bs) (hu:A.units+8<cLine):LtAt A s v u (ltN x y):=by
 have e:ltN x y=lt4 p q:=by unfold ltN;rw [hx,hy]
 rw [e];obtain⟨a,c,b,d⟩:=p
 obtain⟨a',c',b',d'⟩:=q
 rw [(yhz hx).1] at hv;rw [(yhz hy).1] at hw;have hu1:A.in1.units<cLine:=by rw [K9];omega
 have hu2:A.in1.units+2<cLine:=by rw [K9];omega
 exact yeq hv hw (by omega) (fun v u as bs r1 r2=>⟨yfe r1 r2 hu2,yer r1 r2 hu1⟩) fun v u as bs r1 r2=>⟨yfe r1 r2 hu2,yer r1 r2 hu1⟩
end DL
namespace DL
open PySem L2 PyProof.Rows
open PySem.SeqAt (EqAt)
def Ext (h h':Heap):Prop:=∀ b o,h.get? b=some o->h'.get? b=some o
section
variable {prog:Program} {w:World} {A:Around} {E:Value->Shared->Prop} {R:Result->Shared->Prop} {h₀:Heap} {I S l:Addr} {vs:List Value}
theorem zpn {h h':Heap} {f:Obj->Obj} (k:Ext h₀ h) (hS:h₀.get? S=none):Ext h₀ (h.update S f):=fun b o e=>
 (Z9 _ _ (fun z:S=b=>by rw [z,e] at hS;cases hS)).trans (k b o e)
theorem zpo {h h':Heap} (k:Ext h₀ h) (hI:h₀.get? I=none) (hk:∀ b o,b∉[I]->h.get? b=some o->h'.get? b=some o):Ext h₀ h':=fun b o e=>
 hk b o (fun z=>by rw [Zt.mp z,hI] at e;cases e) (k b o e)
theorem yig (hh:A.handled=none) (bt:Nat->Nat->Bool) (hl:h₀.IsList l vs.toArray) (hI:h₀.get? I=none) (hS:h₀.get? S=none) (hIS:S≠I)
  (hcmp:∀ i j vi vj (s:Shared),Ext h₀ s.heap->vs[i]? = some vi->vs[j]? = some vj->LtAt A.in1 s vi vj (bt i j)) :
  ∀ (k j:Nat) (s:Shared) (vb:Value) (c:Nat),vs.length-(j+1)=k->j+1<=vs.length->s.heap.IsListIter I l (j+1)->Ext h₀ s.heap->vs[argBest bt j]? = some vb ->
   s.heap.get? S=some (seqObj "list" #[vb,vb] c) ->
   (∀ v h' tk,vs[argBest bt (vs.length-1)]? = some v->Ext h₀ h'->R (.ok (.ret v)) {s with heap:=h',toks:=tk}) ->
   codeAny (model prog w) A (.builtin "min.loop" ⟨[.ref I,.none,.ref S],[]⟩) R s:=by
 have nm:(toString "min" ++ toString ".loop" : String) = "min.loop" := by decide
 have lI:l≠I:=fun z=>by
  refine xa hl fun o q _=>?_;clear hl
  rw [z,hI] at q;cases q
 have W:=Vt (prog:=prog) (w:=w) (A:=A.in1) hh I l lI vs.toArray;have sz:vs.toArray.size=vs.length:=Zr ..;have nS:S∉[I]:=by simpa using hIS
 intro k;induction k with
 | zero=>
  intro j s vb c hk hj it ke hb gS hR;have hn:j+1=vs.length:=by omega
  refine We Vs ?_;rw [Yp Ql _];show wpAny _ A.in1 (seqItems? (.ref S) >>= _) _ _ s;refine Zc (Q9 gS rfl ?_);show wpAny _ A.in1 (tryCatch (pyNext (.ref I)) _ >>= _) _ _ s;refine Zc (Us (W.done s _ _ ⟨by rw [sz,<- hn];exact it,hl.at fun o q=>ke _ _ q⟩ fun h' tk hk'=>?_));show wpAny _ A.in1 (updateSeq S (fun _=>#[]) >>= _) _ _ _;refine Zc (W1 (hk' S _ nS gS) rfl (Zc (Jn (Zg ?_))));exact hR vb _ tk (by rw [<- hn];exact hb) (zpn (h':=h') (zpo ke hI hk') hS)
 | succ k ih=>
  intro j s vb c hk hj it ke hb gS hR;have hlt:j+1<vs.length:=by omega
  refine We Vs ?_;rw [Yp Ql _];show wpAny _ A.in1 (seqItems? (.ref S) >>= _) _ _ s;refine Zc (Q9 gS rfl ?_);show wpAny _ A.in1 (tryCatch (pyNext (.ref I)) _ >>= _) _ _ s;refine Zc (Us (W.item (j+1) s _ _ (by rw [sz];exact hlt) ⟨it,hl.at fun o q=>ke _ _ q⟩ fun v h' tk hP st hk'=>?_));have hv:vs[j+1]? = some v:=by simpa using hP
  have ke':=zpo ke hI hk';have gS':=hk' S _ nS gS;show wpAny _ A.in1 (tryCatch (holding [v,v] (richCompare .Lt v vb >>= _)) _ >>= _) _ _ _;refine Zc (Us (Yf (Zc (hcmp (j+1) (argBest bt j) v vb {s with heap:=h',toks:=tk} ke' hv hb prog w _ _ ?_))));refine Zc (Yf (Qv (Zc (Jn (Zg ?_)))));cases q:bt (j+1) (argBest bt j) with
  | true=>
   simp only [if_true];refine Zc (W1 gS' rfl (Zc (Jn ?_)));rw [nm];refine Zg ⟨Wt Ql _,ih (j+1) _ v _ (by omega) hlt (st.1.at fun o e=>(Z9 _ _ hIS).trans e) (zpn (h':=h') ke' hS) (by simp only [argBest,q,if_true];exact hv) (get?_update_seq gS' fun _=>#[v,v]) fun v' h'' tk''=>hR v' h'' tk''⟩
  | false=>
   simp only [Zx,if_false];refine Zc (Jn ?_);rw [nm];refine Zg ⟨Wt Ql _,ih (j+1) _ vb c (by omega) hlt st.1 ke' (by simp only [argBest,q,Zx,if_false];exact hb) gS' fun v' h'' tk''=>hR v' h'' tk''⟩
theorem ybk {s:Shared} (hh:A.handled=none) (bt:Nat->Nat->Bool) (hl:h₀.IsList l vs.toArray) (hI:h₀.get? I=none) (hS:h₀.get? S=none) (hIS:S≠I) (hn:0<vs.length)
  (hcmp:∀ i j vi vj (s:Shared),Ext h₀ s.heap->vs[i]? = some vi->vs[j]? = some vj->LtAt A.in1 s vi vj (bt i j)) (it:s.heap.IsListIter I l 0) (ke:Ext h₀ s.heap) (gS:s.heap.get? S=some (seqObj "list" #[] 0))
  (hR:∀ v h' tk,vs[argBest bt (vs.length-1)]? = some v->Ext h₀ h'->R (.ok (.ret v)) {s with heap:=h',toks:=tk}):codeAny (model prog w) A (.builtin "min.loop" ⟨[.ref I,.none,.ref S],[]⟩) R s:=by
 have nm:(toString "min" ++ toString ".loop" : String) = "min.loop" := by decide
 have lI:l≠I:=fun z=>by
  refine xa hl fun o q _=>?_;clear hl
  rw [z,hI] at q;cases q
 have W:=Vt (prog:=prog) (w:=w) (A:=A.in1) hh I l lI vs.toArray;have sz:vs.toArray.size=vs.length:=Zr ..;refine We Vs ?_;rw [Yp Ql _];show wpAny _ A.in1 (seqItems? (.ref S) >>= _) _ _ s;refine Zc (Q9 gS rfl ?_);show wpAny _ A.in1 (tryCatch (pyNext (.ref I)) _ >>= _) _ _ s;refine Zc (Us (W.item 0 s _ _ (by rw [sz];exact hn) ⟨it,hl.at fun o q=>ke _ _ q⟩ fun v h' tk hP st hk'=>?_));have hv:vs[0]? = some v:=by simpa using hP
 have gS':=hk' S _ (by simpa using hIS) gS;show wpAny _ A.in1 (updateSeq S (fun _=>#[v,v]) >>= _) _ _ _;refine Zc (W1 gS' rfl ?_);rw [nm];exact Zg ⟨Wt Ql _,yig hh bt hl hI hS hIS hcmp _ 0 _ v _ rfl hn (st.1.at fun o e=>(Z9 _ _ hIS).trans e) (zpn (h':=h') (zpo ke hI hk') hS) hv (get?_update_seq gS' fun _=>#[v,v]) fun v' h'' tk''=>hR v' h'' tk''⟩
theorem yih {s:Shared} {Q:Value->Shared->Prop} (hh:A.handled=none) (bt:Nat->Nat->Bool) (hl:s.heap.IsList l vs.toArray) (hn:0<vs.length)
  (hcmp:∀ i j vi vj (s':Shared),Ext s.heap s'.heap->vs[i]? = some vi->vs[j]? = some vj->LtAt A.in1 s' vi vj (bt i j))
  (hQ:∀ v h' tk,vs[argBest bt (vs.length-1)]? = some v->Ext s.heap h'->Q v {s with heap:=h',toks:=tk}):wpAny (model prog w) A (call (.builtin "min") [.ref l]) Q E s:=by
 have nm:(toString "min" ++ toString ".loop" : String) = "min.loop" := by decide
 refine call_function_tree F.kind_min F.plain_min F.entry_min (F.args_min1 _) ?_;show wpAny _ A.in1 (Builtin.Builtins.bindParams "min" ["key", "default"] 0 ⟨[],[]⟩ >>= _) _ _ s;refine Zc (wpAny_of_eq (show Builtin.Builtins.bindParams "min" ["key", "default"] 0 ⟨[],[]⟩=pure [none,none] from rfl) ?_);refine Zc (Zg ?_);refine Zc (Jh hl ?_);refine Zc (Gs ?_ (Ya _));rw [nm];have up:∀ o₁ o₂,Ext s.heap ((s.heap.push o₁).push o₂):=fun o₁ o₂ b x e=>Zf _ (Zf _ e)
 have n0:s.heap.get? s.heap.objs.size=none:=J3 (Zh _);have n1:∀ o,s.heap.get? (s.heap.push o).objs.size=none:=fun o=>J3 (by rw [size_push'];exact Nat.le_succ _)
 have ne:∀ o,(s.heap.push o).objs.size≠s.heap.objs.size:=fun o=>by rw [size_push'];exact Z8 (Q6 _)
 exact Zg ⟨Wt Ql _,ybk hh bt hl n0 (n1 _) (ne _) hn hcmp ⟨_,Zf _ (Z3 _ rfl),rfl,rfl⟩ (up _ _) (Z3 _ rfl) fun v h' tk a b=>hQ v h' tk a b⟩
end
section
variable {X:Cx}
noncomputable def zth (l:List D):Nat:=argBest (fun i j=>ltN (l.getD i .non) (l.getD j .non)) (l.length-1)
noncomputable def minN (l:List D):Option D:=if (l.all fun d=>(nst d).isSome)=true then l[zth l]? else none
theorem yia {l:List D} (h:(l.all fun d=>(nst d).isSome)=true) {d:D} (hd:d∈l):∃ p,nst d=some p:=Vm.mp (U3.mp h d hd)
theorem zyi (hc:X.calm=true) (hu:X.A.units+64<cLine):ziw X (.builtin "min") (fun vs H Q=>∃ a F xs l r,vs=[.ref a]/\Same F H/\SqL X.K F a xs/\DenL X.K F l xs/\minN l=some r/\∀ v,Den X.K F r v->Q v H):=by
 intro pins s σ H vs us Q I r ⟨a,F,xs,l,d,e,sF,sq,dn,hm,q⟩;subst e;refine xa (zly r) fun u e r1=>?_;subst e;cases r1;refine xh (I.list (sF.seq sq)) fun its rv pl hz=>?_;unfold minN at hm;split at hm
 ·rename_i hall;have len1:xs.length=l.length:=dn.length;have len2:xs.length=its.length:=rv.length;have hlt:zth l<l.length:=by
   rcases Wg (zth l) l.length with h | h
   ·exact h
   ·rw [Wr h] at hm;cases hm
  have rd:∀ i vi,its[i]? = some vi->∃ di as p,l[i]? = some di/\nst di=some p/\Reads s.heap vi (toP di) as:=fun i vi hi=>by
   have hi':i<its.length:=(Zl.mp hi).1;obtain⟨di,hdi⟩:∃ di,l[i]? = some di:=⟨_,Ze (by omega)⟩
   refine xa (dn.get hdi) fun y hy qy=>?_;refine xa (rv.get hy) fun z hz1 rz=>?_;rw [hi] at hz1;cases hz1;refine xb (yia hall (Zn hdi)) fun p hp=>?_;refine xb (zbm I sF 49 di (yhz hp).2 qy rz) fun as ra=>?_;exact⟨di,as,p,hdi,hp,ra⟩
  refine yih (I.ok.hd hc) (fun i j=>ltN (l.getD i .non) (l.getD j .non)) pl.isList (by omega) (fun i j vi vj s' ke hi hj=>?_) fun v h' tk hv ke=>?_
  ·refine xw (rd i vi hi) fun di as p h1 h2 h3=>?_;refine xw (rd j vj hj) fun dj bs q k1 k2 k3=>?_;rw [Z0,Z0,h1,k1];exact lt_nst h2 k2 (Reads.keeps ke h3) (Reads.keeps ke k3) (by rw [K9];omega)
  ·rw [<- len2,len1] at hv;refine xa (dn.get hm) fun y hy qy=>?_;refine xa (rv.get hy) fun z hz1 rz=>?_;rw [show its[zth l]? = some v from hv] at hz1;cases hz1;exact⟨y,H,I.kept ke,rz,q y qy⟩
 ·cases hm
theorem ycx {l:List D} {d:D} (hc:X.calm=true) (hu:X.A.units+64<cLine) (h:minN l=some d):zgm X (.builtin "min") [.lst l] (.val d):=⟨_,zyi hc hu,fun H0 Fc H F σ ρ vs Q R q k=>by
 refine xa q.one fun v e q=>?_;refine xc q.lst fun p xs e1 sq r=>?_;rw [e1] at e;exact⟨p,F,xs,l,d,e,R.sub,sq,r,h,fun v hv=>k v H F (Same.refl _) R (RW.v hv)⟩⟩
noncomputable def idxD (l:List D) (y:D):Option Nat:=if (dOkL 49 l && dOk 50 y)=true then l.findIdx? (fun d=>eqD d y) else none
noncomputable def idxW:D->D->Option W
 | .lst l,y=>(idxD l y).map fun (k:Nat)=>W.val (.int (k:Int))
 | _,_=>none
theorem zse:∀ {l:List D} {n:Nat} {d:D},dOkL n l=true->d∈l->dOk n d=true
 | d::l,n,e,h,he=>by
  simp only [dOkL,Zm] at h;rcases Zi.mp he with z | z
  ·rw [z];exact h.1
  ·exact zse h.2 z
theorem ybi (hu:X.A.units+64<cLine):MtR X "list.index" (fun x vs H Q=>∃ a F xs l y v k,x=.ref a/\vs=[v]/\Same F H/\SqL X.K F a xs/\DenL X.K F l xs/\Den X.K F y v/\idxD l y=some k/\Q (.int (k:Int)) H):=by
 intro pins s σ H x vs vv us Q I rx r ⟨a,F,xs,l,y,v,k,e,e2,sF,sq,dn,dy,hk,q⟩;subst e;subst e2;refine xa (zly r) fun u e r1=>?_;subst e;cases rx;refine xh (I.list (sF.seq sq)) fun its rv pl hz=>?_;unfold idxD at hk;split at hk
 ·rename_i hd;rw [Zm] at hd;obtain⟨⟨cls,dd,data,sl⟩,ho,hc,n,hdt⟩:=id pl.isList
  simp only at hc hdt
  subst hc hdt;have len1:xs.length=l.length:=dn.length;have len2:xs.length=its.length:=rv.length;refine xb (zbm I sF 50 y hd.2 dy r1) fun bs ry=>?_;have rd:∀ i vi,its[i]? = some vi->∃ di as,l[i]? = some di/\dOk 49 di=true/\Reads s.heap vi (toP di) as:=fun i vi hi=>by
   have hi':i<its.length:=(Zl.mp hi).1;obtain⟨di,hdi⟩:∃ di,l[i]? = some di:=⟨_,Ze (by omega)⟩
   refine xa (dn.get hdi) fun y hy qy=>?_;refine xa (rv.get hy) fun z hz1 rz=>?_;rw [hi] at hz1;cases hz1;have ok:=zse hd.1 (Zn hdi);refine xb (zbm I sF 49 di ok qy rz) fun as ra=>?_;exact⟨di,as,hdi,ok,ra⟩
  refine xa (Uj.mp hk) fun hkl h2 h3=>?_;classical
  let e:Value->Bool:=fun z=>decide (∃ (i:Nat) (di:D),its[i]? = some z/\l[i]? = some di/\eqD di y=true)
  have e_of:∀ i z di,its[i]? = some z->l[i]? = some di->e z=eqD di y:=fun i z di h1 h2=>by
   refine xc (rd i z h1) fun d1 as1 g1 ok1 rd1=>?_;rw [h2] at g1;cases g1;cases q:eqD di y with
   | true=>exact decide_eq_true ⟨i,di,h1,h2,q⟩
   | false=>
    refine decide_eq_false fun hz=>xc hz fun j dj k1 k2 k3=>?_
    refine xc (rd j z k1) fun d2 as2 g2 ok2 rd2=>?_;rw [k2] at g2;cases g2;have:=(reads_det (fun b o e _=>e) rd1 rd2).1
    rw [<- zpp 49 50 di y ok1 hd.2,<- this,zpp 49 50 dj y ok2 hd.2,k3] at q;cases q
  have hkk:k<its.toArray.size:=by simp only [Zr];omega
  have at':∀ m (hm:m<its.toArray.size) (hl:m<l.length),e its.toArray[m]=eqD l[m] y:=fun m hm hl=>
   e_of m _ _ (by simp only [List.getElem_toArray];exact Ze (by simpa using hm)) (Ze hl)
  refine Go Vl ⟨_,ho,rfl⟩ PySem.F.entry_list_index (PySem.F.args_list_index_2 _ _)
   (SeqAt.list_indexAt a its.toArray n dd sl u e k hkk ?_ ?_ ?_) ⟨ho,fun z hz=>?_,?_⟩
  ·have:sizeLine<2^63-1:=by decide
   omega
  ·rw [at' k hkk hkl];exact h2
  ·intro m hm hlt;rw [at' m hm (by omega)];simpa using h3 m hlt
  ·obtain⟨m,hm,ez⟩:=List.getElem_of_mem (Gb.mpr hz)
   have gz:its[m]? = some z:=by rw [<- ez];exact Ze hm
   refine xc (rd m z gz) fun di as g1 ok1 rd1=>?_;rw [e_of m z di gz g1,<- zpp 49 50 di y ok1 hd.2];refine xg (ztj 49 di ok1) fun a1 b1=>?_;refine xg (ztj 50 y hd.2) fun a2 b2=>?_;exact G2 (toP di) (toP y) X.A.in1 s z u as bs rd1 ry a1 a2 (by rw [K9];have:=Nat.min_le_left (toP di).depth (toP y).depth;omega)
  ·exact⟨.int (k:Int),H,I.tok _,⟨_,rfl⟩,q⟩
 ·cases hk
theorem DE.idx {ρ:Rho} {x:Str} {p ap cp:Pos} {e:Expr} {l:List D} {y:D} {k:Nat} (hu:X.A.units+64<cLine) (ho:DF X (.Name x p) ρ (.lst l)) (he:DF X e ρ y) (hs:Bs e=true) (hl:(ap.endLine == cp.line)=true) (hk:idxD l y=some k) :
  DE X (.Call (.Attribute (.Name x p) "index" ap) [e] [] cp) ρ (.val (.int (k:Int))):=fun H0 Fc=>
 PE.mono (pe_bm (T := "list") PySem.F.plainAttrs_list Vl PySem.F.type_list_index (ybi hu) (ho H0 Fc) (DA.cons he DA.nil hs H0 Fc) (by rfl) (by rw [Bx hs];rfl) hl (Bx hs) rfl) fun σ H Q hz=>xa hz fun F R q=>
  ⟨F,R,fun v H1 F1 s1 R1 q1=>by
   refine xc q1.lst fun a xs e1 sq r=>?_;subst e1;refine⟨.inl ⟨rfl,xs,R1.sub.seq sq⟩,F1,R1,fun vs H2 F2 s2 R2 q2=>?_⟩
   refine xa q2.one fun u e2 q3=>?_;refine xc ((q1.mono s2).lst) fun a' xs' e3 sq' r'=>?_;cases e3;exact⟨a,F2,xs',l,y,u,k,rfl,e2,R2.sub,sq',r',q3,hk,q _ H2 F2 (s1.trans s2) R2 RW.int⟩⟩
end
end DL
namespace DL
open PySem L2 PyProof.Rows
inductive Op where
 | add | sub | mul | fdiv | mod | pow
inductive Cm where
 | lt | le | gt | ge | eq | ne | isN | notN | isin | notin
inductive Ty where
 | int | bool | tuple | list
inductive Bi where
 | len | abs | min | max
inductive Fm where
 | ss | rev | lset | tupl | zip
inductive Tg where
 | name (i:Nat) | tup (l:List Nat)
mutual
inductive E where
 | var (i:Nat) | int (i:Int) | bl (b:Bool) | non
 | bin (o:Op) (a b:E) | neg (a:E) | cmp (c:Cm) (a b:E)
 | and (a b:E) | or (a b:E) | not (a:E) | ife (c a b:E)
 | tup (l:Es) | lst (l:Es) | ix (a b:E) | sl (a:E) (lo hi:EO)
 | call (f:Nat) (l:Es) | bi (f:Bi) (l:Es) | isi (a:E) (t:Ty) | isx (a:E) (ys:List Str)
 | idx (a b:E) | fm (f:Fm) (l:Es) | lcp (a:E) | comp (elt:E) (t:Tg) (it:It') (nt:Nat) (fr:List Nat) (c:EO)
inductive Es where
 | nil | cons (e:E) (l:Es)
inductive EO where
 | non | som (e:E)
inductive It' where
 | seq (e:E) | seqV (i:Nat) | range1 (a:E) | range2 (a b:E) | enum (e:E)
end
mutual
inductive S where
 | asg (i:Nat) (e:E) | unp (l:List Nat) (e:E) | par (i j:Nat) (a b:E)
 | ret (e:E) | retV (i:Nat) | iff (c:E) (a b:Ss) | whl (c:E) (b:Ss) | frr (t:Tg) (it:It') (b:Ss) | tryC (f g:Nat) (l:Es) (i j:Nat) | app (i:Nat) (e:E) | pop (i:Nat) | clr (i:Nat) | seti (i:Nat) (k e:E) | never
inductive Ss where
 | nil | cons (s:S) (l:Ss)
end
noncomputable def B0 (a b:Int):Bool:=decide (a.natAbs<2^16000) && decide (b.natAbs<2^16000)
noncomputable def zcy (b:Int):Bool:=decide (b≠0) && decide (b.natAbs<2^9000)
noncomputable def zmx (a b:Int):Bool:=decide (0<=b) && decide (b<=1000) && decide (a.natAbs<2^64)
noncomputable def addW:D->D->Option W
 | .int a,.int b=>some (.val (.int (a+b)))
 | .lst a,.lst b=>if a.length+b.length<=sizeLine then some (.new (a++b)) else none
 | _,_=>none
noncomputable def arW (f:Int->Int->Option W):D->D->Option W
 | .int a,.int b=>f a b
 | _,_=>none
noncomputable def opW:Op->D->D->Option W
 | .add,x,y=>addW x y
 | .sub,x,y=>arW (fun a b=>some (.val (.int (a-b)))) x y
 | .mul,x,y=>arW (fun a b=>if B0 a b=true then some (.val (.int (a*b))) else none) x y
 | .fdiv,x,y=>arW (fun a b=>if zcy b=true then some (.val (.int (a.fdiv b))) else none) x y
 | .mod,x,y=>arW (fun a b=>if b=0 then none else some (.val (.int (a.fmod b)))) x y
 | .pow,x,y=>arW (fun a b=>if zmx a b=true then some (.val (.int (a^b.toNat))) else none) x y
noncomputable def ordO (f:Int->Int->Bool):D->D->Option Bool
 | .int a,.int b=>some (f a b)
 | _,_=>none
noncomputable def eqO:D->D->Option Bool
 | .int a,.int b=>some (decide (a=b))
 | .bl a,.bl b=>some (a == b)
 | .tup a,.tup b=>if (dOkL 49 a && dOkL 49 b)=true then some (eqL a b) else none
 | .lst a,.lst b=>if (dOkL 49 a && dOkL 49 b)=true then some (eqL a b) else none
 | _,_=>none
noncomputable def inO (x:D):D->Option Bool
 | .lst l=>if (dOk 50 x && dOkL 49 l)=true then some (l.any fun y=>eqD y x) else none
 | _=>none
noncomputable def nonO (x:D):D->Option Bool
 | .non=>some (znr x)
 | _=>none
noncomputable def cmpD:Cm->D->D->Option Bool
 | .lt,x,y=>ordO (fun a b=>decide (a<b)) x y
 | .le,x,y=>ordO (fun a b=>decide (a<=b)) x y
 | .gt,x,y=>ordO (fun a b=>decide (b<a)) x y
 | .ge,x,y=>ordO (fun a b=>decide (b<=a)) x y
 | .eq,x,y=>eqO x y
 | .ne,x,y=>(eqO x y).map not
 | .isin,x,y=>inO x y
 | .notin,x,y=>(inO x y).map not
 | .isN,x,y=>nonO x y
 | .notN,x,y=>(nonO x y).map not
noncomputable def isTy:Ty->D->Bool
 | .int,.int _=>true
 | .int,.bl _=>true
 | .bool,.bl _=>true
 | .tuple,.tup _=>true
 | .list,.lst _=>true
 | _,_=>false
noncomputable def ztk (t:Ty):D->Option Bool
 | .exc _=>none
 | d=>some (isTy t d)
noncomputable def lenW:List D->Option W
 | [.lst l]=>some (.val (.int l.length))
 | [.tup l]=>some (.val (.int l.length))
 | _=>none
noncomputable def absW:List D->Option W
 | [.int i]=>some (.val (.int (if i<0 then -i else i)))
 | _=>none
noncomputable def minW:List D->Option W
 | [.int i,.int j]=>some (.val (.int (if j<i then j else i)))
 | [.lst l]=>(minN l).map W.val
 | _=>none
noncomputable def maxW:List D->Option W
 | [.int i,.int j]=>some (.val (.int (if i<j then j else i)))
 | _=>none
noncomputable def biW:Bi->List D->Option W
 | .len,ds=>lenW ds
 | .abs,ds=>absW ds
 | .min,ds=>minW ds
 | .max,ds=>maxW ds
noncomputable def ixD:D->D->Option D
 | .tup l,.int i=>atI l i
 | .lst l,.int i=>atI l i
 | _,_=>none
noncomputable def slD:D->Option Int->Option Int->Option W
 | .lst l,i,j=>some (.new (cutD l i j))
 | _,_,_=>none
noncomputable def zco:D->Option Bool
 | .bl b=>some b
 | _=>none
noncomputable def dInt:D->Option Int
 | .int i=>some i
 | _=>none
noncomputable def lcpW:D->Option W
 | .lst l=>some (.new l)
 | .tup l=>some (.new l)
 | _=>none
noncomputable def ssW:List D->Option W
 | [.lst l]=>(zkw l).bind fun ks=>if ks.length<=63 then some (.new ((ssK ks).map dK)) else none
 | _=>none
noncomputable def revW:List D->Option W
 | [.lst l]=>some (.new l.reverse)
 | _=>none
noncomputable def yfy:List D->Option W
 | [.lst l]=>some (.val (.tup l))
 | _=>none
noncomputable def zipW:List D->Option W
 | [.lst a,.lst b]=>if a.length=b.length then some (.new (zipD a b)) else none
 | _=>none
noncomputable def fmW:Fm->List D->Option W
 | .ss,ds=>ssW ds
 | .rev,ds=>revW ds
 | .tupl,ds=>yfy ds
 | .zip,ds=>zipW ds
 | .lset,_=>none
noncomputable def tgOk (n:Nat):Tg->Bool
 | .name i=>decide (i<n)
 | .tup l=>l.all fun i=>decide (i<n)
noncomputable def setE (ρ:Rho) (i:Nat) (d:D):Option Rho:=if i<ρ.length then some (ρ.set i (some d)) else none
noncomputable def zch:List Nat->List D->Rho->Option Rho
 | [],[],ρ=>some ρ
 | i::is,d::ds,ρ=>(setE ρ i d).bind (zch is ds)
 | _,_,_=>none
noncomputable def zbo:Tg->D->Rho->Option Rho
 | .name i,d,ρ=>setE ρ i d
 | .tup is,.tup ds,ρ=>zch is ds ρ
 | _,_,_=>none
noncomputable def yci (l:List D):List D:=l.zipIdx.map fun p=>D.tup [.int (p.2:Int),p.1]
noncomputable def seqD:D->Option (List D)
 | .lst l=>some l
 | .tup l=>some l
 | _=>none
noncomputable def lstD:D->Option (List D)
 | .lst l=>some l
 | _=>none
noncomputable def varD (ρ:Rho) (i:Nat):Option D:=match ρ[i]? with
 | some (some d)=>some d
 | _=>none
section
variable (Γ:Nat->List D->Option W)
mutual
noncomputable def ev:E->Rho->Option W
 | .var i,ρ=>(varD ρ i).map W.val
 | .int i,_=>some (.val (.int i))
 | .bl b,_=>some (.val (.bl b))
 | .non,_=>some (.val .non)
 | .bin o a b,ρ=>((ev a ρ).map W.d).bind fun x=>((ev b ρ).map W.d).bind fun y=>opW o x y
 | .neg a,ρ=>(((ev a ρ).map W.d).bind dInt).map fun i=>.val (.int (-i))
 | .cmp c a b,ρ=>((ev a ρ).map W.d).bind fun x=>((ev b ρ).map W.d).bind fun y=>(cmpD c x y).map fun k=>.val (.bl k)
 | .and a b,ρ=>(((ev a ρ).map W.d).bind zco).bind fun k=>if k=true then ev b ρ else some (.val (.bl false))
 | .or a b,ρ=>(((ev a ρ).map W.d).bind zco).bind fun k=>if k=true then some (.val (.bl true)) else ev b ρ
 | .not a,ρ=>(((ev a ρ).map W.d).bind zco).map fun k=>.val (.bl (!k))
 | .ife c a b,ρ=>(((ev c ρ).map W.d).bind zco).bind fun k=>if k=true then ev a ρ else ev b ρ
 | .tup l,ρ=>(evs l ρ).bind fun ds=>if ds.length<=sizeLine then some (.val (.tup ds)) else none
 | .lst l,ρ=>(evs l ρ).bind fun ds=>if ds.length<=sizeLine then some (.new ds) else none
 | .ix a b,ρ=>((ev a ρ).map W.d).bind fun x=>((ev b ρ).map W.d).bind fun y=>(ixD x y).map W.val
 | .sl a lo hi,ρ=>((ev a ρ).map W.d).bind fun x=>(evo lo ρ).bind fun i=>(evo hi ρ).bind fun j=>slD x i j
 | .call f l,ρ=>(evs l ρ).bind fun ds=>Γ f ds
 | .bi f l,ρ=>(evs l ρ).bind fun ds=>biW f ds
 | .isi a t,ρ=>((ev a ρ).map W.d).bind fun d=>(ztk t d).map fun k=>.val (.bl k)
 | .isx a ys,ρ=>((ev a ρ).map W.d).bind fun d=>(isX ys d).map fun k=>.val (.bl k)
 | .idx a b,ρ=>((ev a ρ).map W.d).bind fun x=>((ev b ρ).map W.d).bind fun y=>idxW x y
 | .fm f l,ρ=>(evs l ρ).bind fun ds=>fmW f ds
 | .lcp a,ρ=>((ev a ρ).map W.d).bind lcpW
 | .comp elt t it nt fr c,ρ=>(evW it ρ).bind fun items=>if items.length<=sizeLine/\tgOk nt t=true then
   (zcp (fun d=>(zbo t d (blkR nt fr ρ)).bind fun ρd=>(evc c ρd).bind fun k=>if k=true then ((ev elt ρd).map W.d).map some else some none) items).map W.new else none
noncomputable def evs:Es->Rho->Option (List D)
 | .nil,_=>some []
 | .cons e l,ρ=>((ev e ρ).map W.d).bind fun d=>(evs l ρ).map fun ds=>d::ds
noncomputable def evo:EO->Rho->Option (Option Int)
 | .non,_=>some none
 | .som e,ρ=>(((ev e ρ).map W.d).bind dInt).map some
noncomputable def evc:EO->Rho->Option Bool
 | .non,_=>some true
 | .som e,ρ=>((ev e ρ).map W.d).bind zco
noncomputable def evW:It'->Rho->Option (List D)
 | .seq e,ρ=>((ev e ρ).map W.d).bind seqD
 | .seqV i,ρ=>(varD ρ i).bind seqD
 | .range1 a,ρ=>(((ev a ρ).map W.d).bind dInt).bind fun n=>if -(2^62)<=n/\n<2^62 then some (zag 0 n.toNat) else none
 | .range2 a b,ρ=>(((ev a ρ).map W.d).bind dInt).bind fun m=>(((ev b ρ).map W.d).bind dInt).bind fun n=>
   if -(2^62)<=m/\m<2^62 /\ -(2^62)<=n/\n<2^62 then some (zag m (n-m).toNat) else none
 | .enum e,ρ=>(((ev e ρ).map W.d).bind lstD).map yci
end
noncomputable def evB (e:E) (ρ:RhoS):Option Bool:=((ev Γ e (view ρ)).map W.d).bind zco
noncomputable def setR (ρ:RhoS) (i:Nat) (b:B):Option RhoS:=if i<ρ.length then some (ρ.set i (some b)) else none
noncomputable def zcv:List Nat->List D->RhoS->Option RhoS
 | [],[],ρ=>some ρ
 | i::is,d::ds,ρ=>(setR ρ i (.sh d)).bind (zcv is ds)
 | _,_,_=>none
noncomputable def B5:Tg->D->RhoS->Option RhoS
 | .name i,d,ρ=>setR ρ i (.sh d)
 | .tup is,.tup ds,ρ=>zcv is ds ρ
 | _,_,_=>none
noncomputable def seqB (ρ:RhoS):Option (Option B)->Option (List D×RhoS)
 | some (some (.sh (.lst l)))=>some (l,ρ)
 | some (some (.sh (.tup l)))=>some (l,ρ)
 | some (some (.ow l))=>some (l,frz ρ)
 | _=>none
noncomputable def evI:It'->RhoS->Option (List D×RhoS)
 | .seqV i,ρ=>seqB ρ ρ[i]?
 | .seq e,ρ=>(ev Γ e (view ρ)).bind fun w=>match w.d with
  | .lst l=>some (l,after w ρ)
  | .tup l=>some (l,after w ρ)
  | _=>none
 | .range1 a,ρ=>(((ev Γ a (view ρ)).map W.d).bind dInt).bind fun n=>if -(2^62)<=n/\n<2^62 then some (zag 0 n.toNat,ρ) else none
 | .range2 a b,ρ=>(((ev Γ a (view ρ)).map W.d).bind dInt).bind fun m=>(((ev Γ b (view ρ)).map W.d).bind dInt).bind fun n=>
   if -(2^62)<=m/\m<2^62 /\ -(2^62)<=n/\n<2^62 then some (zag m (n-m).toNat,ρ) else none
 | .enum e,ρ=>(ev Γ e (view ρ)).bind fun w=>match w.d with
  | .lst l=>some (yci l,frz ρ)
  | _=>none
open Classical in
noncomputable def zhd (c:RhoS->Option Bool) (b:RhoS->Option Out) (ρ:RhoS):Option Out:=
 if h:∃ n o,zaa c b n ρ=some o then zaa c b h.choose ρ else none
theorem zdu {c:RhoS->Option Bool} {b:RhoS->Option Out}:∀ {n m:Nat} {ρ:RhoS} {o:Out},zaa c b n ρ=some o->n<=m->zaa c b m ρ=some o
 | 0,_,_,_,h,_=>by cases h
 | n+1,0,_,_,_,h=>by omega
 | n+1,m+1,ρ,o,h,hm=>by
  unfold zaa at h |-;cases e:c ρ with
  | none=>rw [e] at h;cases h
  | some k=>
   simp only [e] at h |-;cases k with
   | false=>exact h
   | true=>
    cases e2:b ρ with
    | none=>simp only [e2] at h;cases h
    | some o2=>
     simp only [e2] at h |-;cases o2 with
     | rt w=>exact h
     | nx ρ'=>exact zdu h (by omega)
theorem zcz {c:RhoS->Option Bool} {b:RhoS->Option Out} {n:Nat} {ρ:RhoS} {o:Out} (h:zaa c b n ρ=some o):zhd c b ρ=some o:=by
 have hx:∃ n o,zaa c b n ρ=some o:=⟨n,o,h⟩;unfold zhd;rw [dif_pos hx];refine xb hx.choose_spec fun o' h'=>?_;rw [h'];have a:=zdu h (Nat.le_max_left n hx.choose);have b:=zdu h' (Nat.le_max_right n hx.choose);rw [a] at b;exact b.symm
theorem zji {c:RhoS->Option Bool} {b:RhoS->Option Out} {ρ:RhoS} {o:Out} (h:zhd c b ρ=some o):∃ n,zaa c b n ρ=some o:=by
 unfold zhd at h;by_cases hx:∃ n o,zaa c b n ρ=some o
 ·rw [dif_pos hx] at h;exact⟨_,h⟩
 ·rw [dif_neg hx] at h;cases h
mutual
noncomputable def ex:S->RhoS->Option Out
 | .asg i e,ρ=>(ev Γ e (view ρ)).bind fun w=>(setR (after w ρ) i w.b).map Out.nx
 | .unp is e,ρ=>(ev Γ e (view ρ)).bind fun w=>(B5 (.tup is) w.d (after w ρ)).map Out.nx
 | .par i j a b,ρ=>((ev Γ a (view ρ)).map W.d).bind fun x=>((ev Γ b (view ρ)).map W.d).bind fun y=>
   if lf x=true/\lf y=true/\i≠j/\i<ρ.length/\j<ρ.length then some (.nx ((ρ.set i (some (.sh x))).set j (some (.sh y)))) else none
 | .ret e,ρ=>(ev Γ e (view ρ)).map Out.rt
 | .retV i,ρ=>match ρ[i]? with
  | some (some (.ow l))=>some (.rt (.new l))
  | some (some (.sh d))=>some (.rt (.val d))
  | _=>none
 | .iff c a b,ρ=>(evB Γ c ρ).bind fun k=>if k=true then exs a ρ else exs b ρ
 | .whl c b,ρ=>zhd (evB Γ c) (exs b) ρ
 | .frr t it b,ρ=>(evI Γ it ρ).bind fun p=>forN (B5 t) (exs b) p.1 p.2
 | .tryC f g l i j,ρ=>(evs Γ l (view ρ)).bind fun ds=>match Γ g ds with
  | some (.val (.exc z))=>if z∈zhc/\i≠j/\i<ρ.length then some (.nx (((frz ρ).set j none).set i (some (.sh (.exc z))))) else none
  | _=>(Γ f ds).map fun _=>.nx (frz ρ)
 | .app i e,ρ=>(ev Γ e (view ρ)).bind fun w=>match ρ[i]?,w with
  | some (some (.ow l)),.val d=>if lf d=true/\l.length<sizeLine then some (.nx (ρ.set i (some (.ow (l++[d]))))) else none
  | _,_=>none
 | .pop i,ρ=>match ρ[i]? with
  | some (some (.ow l))=>if l=[] then none else some (.nx (ρ.set i (some (.ow l.dropLast))))
  | _=>none
 | .clr i,ρ=>match ρ[i]? with
  | some (some (.ow _))=>some (.nx (ρ.set i (some (.ow []))))
  | _=>none
 | .seti i k e,ρ=>(ev Γ e (view ρ)).bind fun w=>(((ev Γ k (view ρ)).map W.d).bind dInt).bind fun j=>match ρ[i]?,w with
  | some (some (.ow l)),.val d=>if lf d=true then (ixN l.length j).map fun n=>.nx (ρ.set i (some (.ow (l.set n d)))) else none
  | _,_=>none
 | .never,_=>none
noncomputable def exs:Ss->RhoS->Option Out
 | .nil,ρ=>some (.nx ρ)
 | .cons s l,ρ=>(ex s ρ).bind fun o=>match o with
  | .nx ρ'=>exs l ρ'
  | .rt w=>some (.rt w)
end
noncomputable def run (b:Ss) (n:Nat) (ds:List D):Option W:=(exs Γ b (ds.map (fun d=>some (.sh d))++List.replicate (n-ds.length) none)).bind fun o=>match o with
 | .rt w=>some w
 | .nx _=>some (.val .non)
end
end DL
namespace DL
open PySem L2 PyProof.Rows
section
variable {X:Cx} {e a b c:Expr} {es:List Expr} {ρ:RhoS} {pos:Pos}
noncomputable def Ty.nm:Ty->String
 | .int => "int" | .bool => "bool" | .tuple => "tuple" | .list => "list"
noncomputable def tyTy:Ty->Ty->Bool
 | .int,.int=>true
 | .int,.bool=>true
 | .bool,.bool=>true
 | .tuple,.tuple=>true
 | .list,.list=>true
 | _,_=>false
theorem zkv (K:PySem.W.Frag):∀ (t:Ty) (u:Ty),PySem.W.kitOne K (.type u.nm) (.type t.nm)=some (tyTy t u):=by
 intro t u;cases t <;> cases u <;> kernel_rfl
theorem yip (K:PySem.W.Frag):∀ (t:Ty),PySem.W.kitOne K (.type "NoneType") (.type t.nm)=some false:=by
 intro t;cases t <;> kernel_rfl
theorem isi_ok {pins:List (Addr×Obj)} {σ:L2.St} {F H:Hp} {s:Shared} {A:Around} {E:Value->Shared->Prop} {Q:Value->Shared->Prop} {d:D} {v:V} {u:Value} {t:Ty} (I:Inv X pins σ H s) (sF:Same F H) (h:Den X.K F d v) (r:RelV v u) (hd:ztk t d=some (isTy t d))
  (q:∀ tk,Q (.bool (isTy t d)) {s with toks:=tk}):wpAny (model X.prog X.w) A (call (.builtin "isinstance") [u,.type t.nm]) Q E s:=by
 cases d with
 | non=>
  rw [h.non] at r;cases (show u=Value.none from r)
  exact Kn PySem.W.kitx_none I.kIn True.intro (by rw [yip X.K t]) (fun z=>nomatch z) (by cases t <;> exact q)
 | bl b=>
  rw [h.bl] at r;cases (show u=Value.bool b from r)
  exact Kn PySem.W.kitx_bool I.kIn True.intro (zkv X.K t .bool) (fun z=>nomatch z) (by cases t <;> exact q)
 | int i=>
  rw [h.int] at r;refine xb ((show ∃ t,u=Value.int i t from r)) fun t' e=>?_;cases e;exact Kn PySem.W.kitx_int I.kIn True.intro (zkv X.K t .int) (fun z=>nomatch z) (by cases t <;> exact q)
 | tup l=>
  refine xc h.tup fun a xs e sq _=>?_;rw [e] at r;cases (show u=Value.ref a from r)
  obtain⟨its,_,⟨o,h1,h2,_⟩,_⟩:=I.tuple (Same.tup sF sq)
  exact Kn PySem.W.kitx_tuple I.kIn ⟨o,h1,h2⟩ (zkv X.K t .tuple) (fun z=>nomatch z) (by cases t <;> exact q)
 | lst l=>
  refine xc h.lst fun a xs e sq _=>?_;rw [e] at r;cases (show u=Value.ref a from r)
  obtain⟨its,_,⟨o,n,h1,h2,_⟩,_⟩:=I.list (sF.seq sq)
  exact Kn PySem.W.kitx_list I.kIn ⟨o,h1,h2⟩ (zkv X.K t .list) (fun z=>nomatch z) (by cases t <;> exact q)
 | exc x=>cases hd
theorem zik:bootBuiltins "isinstance" = some (.builtin "isinstance"):=by decide +kernel
theorem ykb (t:Ty):bootBuiltins (Str.ofString t.nm)=some (.type t.nm):=by cases t <;> decide +kernel
theorem ycu (t:Ty) (d:D) (hd:ztk t d=some (isTy t d)):ziw X (.builtin "isinstance") (fun vs H Q=>∃ F v,vs=[v,.ty t.nm]/\Same F H/\Den X.K F d v/\Q (.bl (isTy t d)) H):=by
 intro pins s σ H xs us Q I r ⟨F,v,e,sF,h,q⟩;subst e;refine xc (yfu r) fun u u' e r1 r2=>?_;subst e;cases (show u'=Value.type t.nm from r2)
 exact isi_ok I sF h r1 hd fun tk=>⟨.bl _,H,I.tok tk,rfl,q⟩
theorem DE.isi {t:Ty} {d:D} {x:Str} {p p2:Pos} {ρ:Rho} (hd:ztk t d=some (isTy t d)) (ha:DF X a ρ d) (hs:Bs a=true) (hg:Gl X "isinstance") (hm:X.mg "isinstance" = none) (hx:x=Str.ofString t.nm) (hgt:Gl X x) (hmt:X.mg x=none) :
  DE X (.Call (.Name "isinstance" p) [a,.Name x p2] [] pos) ρ (.val (.bl (isTy t d))):=fun H0 Fc=>by
 subst hx;have pt:PE X (.Name (Str.ofString t.nm) p2) (tC (.ty t.nm)):=yhn hgt hmt (ykb t) rfl (by cases t <;> decide) (by cases t <;> decide);refine PE.mono (zqw (ycu t d hd) hg hm zik (zkn (ha H0 Fc) (zkn pt zvw) (Bx hs)) (by decide) (by decide) (Bx hs) rfl) fun σ H Q hz=>xa hz fun F R k=>?_
 exact⟨F,R,fun v H1 F1 s1 R1 q1=>⟨F1,v,rfl,R1.sub,q1,k _ H1 F1 s1 R1 RW.bl⟩⟩
end
end DL
namespace DL
open PySem L2 PyProof.Rows
section
variable {X:Cx} {e a b c t tg:Expr} {es ts:List Expr} {ρ ρ' ρ2:Rho} {pos:Pos} {d:D} {ds:List D} {w:W}
theorem zsn {K:PySem.W.Frag} {F:Hp} {a:Addr} {xs:List V} {l:List D} (sq:SqL K F a xs) (r:DenL K F l xs):Walks K F (Itl K a) l:=fun i H' sH=>⟨fun d hd=>by
 refine xa (r.get hd) fun y h1 h2=>?_;refine⟨⟨xs,y,sH.seq sq,h1⟩,fun x H'' hz=>xg hz fun ey yy=>?_⟩
 have:=yy xs (sH.seq sq)
 rw [h1] at this;cases this;exact .inl ⟨ey,h2⟩,fun hle=>⟨xs,sH.seq sq,by rw [r.length];exact hle⟩⟩
theorem zub {K:PySem.W.Frag} {F:Hp} {a:Addr} {xs:List V} {l:List D} (sq:SqT K F a xs) (r:DenL K F l xs):Walks K F (Itt K a) l:=fun i H' sH=>⟨fun d hd=>by
 refine xa (r.get hd) fun y h1 h2=>?_;refine⟨⟨xs,y,Same.tup sH sq,h1⟩,fun x H'' hz=>xg hz fun ey yy=>?_⟩
 have:=yy xs (Same.tup sH sq)
 rw [h1] at this;cases this;exact .inl ⟨ey,h2⟩,fun hle=>⟨xs,Same.tup sH sq,by rw [r.length];exact hle⟩⟩
theorem DIe.list {l:List D} (he:DF X e ρ (.lst l)):DIe X tg e ρ l:=fun H0 Fc=>PI.mono (zpa (he H0 Fc)) fun σ H R hz=>xa hz fun F Re k=>⟨F,Re,fun v H2 F2 s2 R2 q=>by
 refine xc q.lst fun a xs e1 sq r=>?_;exact⟨a,e1,⟨xs,R2.sub.seq sq⟩,k _ H2 F2 s2 R2 (zsn sq r)⟩⟩
theorem DIe.tup {l:List D} (he:DF X e ρ (.tup l)):DIe X tg e ρ l:=fun H0 Fc=>PI.mono (zvs (he H0 Fc)) fun σ H R hz=>xa hz fun F Re k=>⟨F,Re,fun v H2 F2 s2 R2 q=>by
 refine xc q.tup fun a xs e1 sq r=>?_;exact⟨a,e1,⟨xs,Same.tup R2.sub sq⟩,k _ H2 F2 s2 R2 (zub sq r)⟩⟩
theorem DIe.range1 {p:Pos} {n:Int} (hg:Gl X "range") (hm:X.mg "range" = none) (ha:DA X [a] ρ [.int n]) (hs:Bs a=true) (h1 : -(2^62)<=n) (h2:n<2^62):DIe X tg (.Call (.Name "range" p) [a] [] pos) ρ (zag 0 n.toNat):=fun H0 Fc=>
 PI.mono (znb hg hm (ha H0 Fc) (Bx hs)) fun σ H R hz=>xa hz fun F Re k=>⟨F,Re,fun vs H2 F2 s2 R2 q=>by
  refine xa q.one fun v e q=>?_;rw [q.int] at e;exact⟨n,e,h1,h2,k _ H2 F2 s2 R2 zcd⟩⟩
theorem DIe.range2 {p:Pos} {m n:Int} (hg:Gl X "range") (hm:X.mg "range" = none) (ha:DA X [a,b] ρ [.int m,.int n]) (hs:Bs a=true) (hs2:Bs b=true) (h : -(2^62)<=m/\m<2^62 /\ -(2^62)<=n/\n<2^62) :
  DIe X tg (.Call (.Name "range" p) [a,b] [] pos) ρ (zag m (n-m).toNat):=fun H0 Fc=>
 PI.mono (zna hg hm (ha H0 Fc) (by rw [Bx hs,Bx hs2];rfl) (by rw [Bx hs2];rfl)) fun σ H R hz=>xa hz fun F Re k=>⟨F,Re,fun vs H2 F2 s2 R2 q=>by
  refine xc q.two fun v u e q1 q2=>?_;rw [q1.int,q2.int] at e;exact⟨m,n,e,h,k _ H2 F2 s2 R2 zcd⟩⟩
theorem ER.set {K:PySem.W.Frag} {H0 Fc F H:Hp} {σ:L2.St} (R:ER K H0 Fc F H σ ρ) {i:Nat} {v:V} (q:Den K F d v) (hi:i<ρ.length) (hs:i<σ.length):ER K H0 Fc F H (σ.set i (some v)) (ρ.set i (some d)):=
 ⟨R.sub,R.same,R.base,R.new,fun j d' e=>by
  by_cases hj:j=i
  ·subst hj;rw [Y4 hi] at e;cases e;exact⟨v,Y4 hs,q⟩
  ·rw [Ym (Wh hj)] at e |-;exact R.env j d' e⟩
theorem DGe.name {i:Nat} {x:Str} (hN:X.N.Nodup) (hi:X.N[i]? = some x) (hx:X.env.scope.names.lookup x=some .local) (hl:i<ρ.length):DGe X (.Name x pos) d ρ (ρ.set i (some d)):=fun H0 Fc=>
 PG.mono (zvu hN hi (.inl hx) (.inr hx)) fun v σ H Q hz=>xF hz fun hlen F R q k=>k _ (by rw [Wc];exact hlen) (R.set q hl (by rw [hlen];exact (Zl.mp hi).1))
def DGse (X:Cx) (tg:List Expr) (ds:List D) (ρ ρ':Rho):Prop:=∀ H0 Fc,PGs X tg (fun vs σ H Q=>σ.length=X.N.length/\∃ F,ER X.K H0 Fc F H σ ρ/\DenL X.K F ds vs/\∀ σ',σ'.length=X.N.length->ER X.K H0 Fc F H σ' ρ'->Q σ' H)
theorem DGse.nil:DGse X [] [] ρ ρ:=fun H0 Fc=>PGs.mono zvt fun vs σ H Q hz=>xF hz fun hl F S q k=>⟨q.inv_nil,k σ hl S⟩
theorem DGse.cons (h1:DGe X t d ρ ρ') (h2:DGse X ts ds ρ' ρ2) (hs:Bs t=true):DGse X (t::ts) (d::ds) ρ ρ2:=fun H0 Fc=>
 PGs.mono (zqu (h1 H0 Fc) (h2 H0 Fc) (by rw [zba hs];rfl)) fun vs σ H Q hz=>xF hz fun hl F S q k=>by
  refine xc q.inv_cons fun v r e q1 q2=>?_;exact⟨v,r,e,hl,F,S,q1,fun σ' hl' S'=>⟨hl',F,S',q2,k⟩⟩
theorem DGe.tup {k} (hc:X.calm=true) (h:DGse X ts ds ρ ρ') (hs:ts.all Bs=true) (hl:ds.length=ts.length):DGe X (.Tuple ts k pos) (.tup ds) ρ ρ':=fun H0 Fc=>
 PG.mono (yef (n:=ts.length) hc (h H0 Fc) (zaf hs).1 (zaf hs).2) fun v σ H Q hz=>xF hz fun hln F S q k=>by
  refine xc q.tup fun a xs e sq r=>?_;exact⟨a,xs,e,Same.tup S.sub sq,by rw [r.length];exact hl,hln,F,S,r,k⟩
structure CompOk (X:Cx) (scope:Scope) (ts frees:List Str) (fr:List Nat):Prop where
 kind:scope.kind=.function
 cell:∀ y∈scope.names,y.2 ≠ .cell
 names:∀ y∈scope.names,y.2=.local->scope.names.lookup y.1=some .local
 all:∀ y∈scope.names,y.2=.free->X.env.kindOf y.1=some .cell
 free:∀ (m:Nat) (x:Str),frees[m]? = some x->scope.names.lookup x=some .free/\X.env.kindOf x=some .cell/\∃ j:Nat,fr[m]? = some j/\X.N[j]? = some x
 len:fr.length=frees.length
def ydp (X:Cx) (scope:Scope) (N':List Str) (X':Cx):Prop:=∃ cl C s₀ H₀ ex,X'=blk X scope cl C N' s₀ H₀ ex
theorem zgv {pins:List (Addr×Obj)} {s:Shared} {σ:L2.St} {H:Hp} {scope:Scope} {ts frees:List Str} {fr:List Nat} (I:Inv X pins σ H s) (hC:CompOk X scope ts frees fr):∀ y∈scope.names,y.2=.free->∃ c,X.env.cells.lookup y.1=some c:=
 fun y hy hf=>I.ok.has y.1 (.inl (hC.all y hy hf))
theorem DE.comp {elt iter:Expr} {ifs:List Expr} {scope:Scope} {ts frees:List Str} {fr:List Nat} {items res:List D} {f:D->Option (Option D)} (hcalm:X.calm=true) (hC:CompOk X scope ts frees fr) (hi:DIe X tg iter ρ items) (hs:∀ x,foldedSetIterable iter X.env x=pure x)
  (hsz:items.length<=sizeLine) (hres:zcp f items=some res)
  (hblk:∀ (X':Cx),ydp X scope (ts++frees) X'->∀ (d:D) (o:Option D),d∈items->f d=some o->∃ ρd,DGe X' tg d (blkR ts.length fr ρ) ρd/\(∀ (i:Nat) d,(blkR ts.length fr ρ)[i]? = some (some d)->ρd[i]? = some (some d)) /\
   (match o with | none=>DTs X' ifs ρd false | some e=>DTs X' ifs ρd true/\DF X' elt ρd e)) :
  DE X (.ListComp elt [⟨tg,iter,ifs,0⟩] scope pos) ρ (.new res):=by
 intro H0 Fc pins s σ H Q I ⟨F,R,k⟩;rw [eval_ListComp];refine Gn (use:=none) rfl hs (yfm (zgv I hC)) hC.kind hC.names (thn (hi H0 Fc pins s σ H (fun J H'=>∃ F',Same F F'/\ER X.K H0 Fc F' H' σ ρ/\Walks X.K F' J items) I ⟨F,R,fun J H' F' s' R' wk=>⟨F',s',R',wk⟩⟩) fun v s1 h1=>thn h1 fun itv s2 h2=>?_);obtain⟨it,fp,tn,J,H1,e1,I2,T,tn0,hfp,F1,sF1,R1,wk⟩:=h2
 subst e1;refine zjv (K:=X.K) rfl (σ':=blkR ts.length fr σ) (ρ0:=blkR ts.length fr ρ) (N':=ts++frees) I2 hcalm T tn0 hfp hC.kind hC.cell (zgv I hC) R1 ?_ ?_ ?_ wk hsz hres (fun C s₀ H₀ d o hd ho=>hblk _ ⟨_,C,s₀,H₀,fp,rfl⟩ d o hd ho) ?_
 ·rw [zsi,Zq,hC.len]
 ·intro i d e;refine xc (zdp e) fun m j e1 e2 e3=>?_;refine xa (R1.env j d e3) fun v g1 g2=>?_;subst e1;exact⟨v,zyp e2 g1,g2⟩
 ·intro i x v e1 e2;refine xc (zdp e2) fun m j e3 e4 e5=>?_;subst e3;rw [Zu (by omega),show ts.length+m-ts.length=m by omega] at e1;refine vg (hC.free m x e1) fun g1 g2 j' g3 g4=>?_;rw [e4] at g3;cases g3;exact⟨g1,g2,j,g4,e5⟩
 ·intro D C s5 H' F' ys m I5 hns hCn hCL hCs hCc hCp sF' R' hFD h0D hD dn;refine⟨m,hns,fun h' sb=>⟨.ref D,H',I5.turned (t':=s5.toks) (fun b o hb e=>sb.extBut b o hb e) hCn hCL (.inr hCs) hCc hCp,rfl,k _ H' F' (sF1.trans sF') R' (RW.n hFD h0D hD dn)⟩⟩
theorem DS.asgComp {i:Nat} {x:Str} {px spos:Pos} {elt iter:Expr} {ifs:List Expr} {scope:Scope} {ts frees:List Str} {fr:List Nat} {items res:List D} {f:D->Option (Option D)} {ρ:RhoS} (hN:X.N.Nodup) (hi':X.N[i]? = some x) (hx:Loc X.env.scope x) (hf:X.fn x=true\/X.env.scope.names.lookup x=some .local) (hl:i<ρ.length)
  (hsw:swapsWith (.ListComp elt [⟨tg,iter,ifs,0⟩] scope pos) (some (.Name x px)) spos.line X.env=pure true)
  (hcalm:X.calm=true) (hC:CompOk X scope ts frees fr) (hi:DIe X tg iter (view ρ) items) (hs:∀ x,foldedSetIterable iter X.env x=pure x)
  (hsz:items.length<=sizeLine) (hres:zcp f items=some res)
  (hblk:∀ (X':Cx),ydp X scope (ts++frees) X'->∀ (d:D) (o:Option D),d∈items->f d=some o->∃ ρd,DGe X' tg d (blkR ts.length fr (view ρ)) ρd/\(∀ (i:Nat) d,(blkR ts.length fr (view ρ))[i]? = some (some d)->ρd[i]? = some (some d)) /\
   (match o with | none=>DTs X' ifs ρd false | some e=>DTs X' ifs ρd true/\DF X' elt ρd e)) :
  DS X (.Assign [.Name x px] (.ListComp elt [⟨tg,iter,ifs,0⟩] scope pos) spos) ρ (.nx ((after (.new res) ρ).set i (some (.ow res)))):=by
 intro H0 Fc pins s σ H D I ⟨F,S,k⟩;refine xg S.borrow fun s0 R=>?_;rw [exec_Assign_Name_used _ _ _ _ hsw];refine Zc (Jm (Zc ?_));show wpAny _ X.A (do let _ <- comprehension (.ListComp elt [⟨tg,iter,ifs,0⟩] scope pos) scope X.env _ (newList []) false (eval iter X.env) (some (assign (.Name x px) X.env))) _ _ s;refine Zc (Ky (Gn (use:=some (assign (.Name x px) X.env)) (Q:=fun _ s'=>SP X pins D .next s') rfl hs (yfm (zgv I hC)) hC.kind hC.names (thn (hi H0 Fc pins s σ H (fun J H'=>∃ F',Same (DL.borrow F H σ ρ) F'/\ER X.K H0 Fc F' H' σ (view ρ)/\Walks X.K F' J items) I ⟨_,R,fun J H' F' s' R' wk=>⟨F',s',R',wk⟩⟩) fun v s1 h1=>thn h1 fun itv s2 h2=>?_)) (fun _ s' hq=>Zg (Zg hq)) fun _ _ e=>e);obtain⟨it,fp,tn,J,H1,e1,I2,T,tn0,hfp,F1,sF1,R1,wk⟩:=h2
 subst e1;refine zjv (K:=X.K) rfl (σ':=blkR ts.length fr σ) (ρ0:=blkR ts.length fr (view ρ)) (N':=ts++frees) I2 hcalm T tn0 hfp hC.kind hC.cell (zgv I hC) R1 ?_ ?_ ?_ wk hsz hres (fun C s₀ H₀ d o hd ho=>hblk _ ⟨_,C,s₀,H₀,fp,rfl⟩ d o hd ho) ?_
 ·rw [zsi,Zq,hC.len]
 ·intro i d e;refine xc (zdp e) fun m j e1 e2 e3=>?_;refine xa (R1.env j d e3) fun v g1 g2=>?_;subst e1;exact⟨v,zyp e2 g1,g2⟩
 ·intro i x v e1 e2;refine xc (zdp e2) fun m j e3 e4 e5=>?_;subst e3;rw [Zu (by omega),show ts.length+m-ts.length=m by omega] at e1;refine vg (hC.free m x e1) fun g1 g2 j' g3 g4=>?_;rw [e4] at g3;cases g3;exact⟨g1,g2,j,g4,e5⟩
 ·intro Da C s5 H' F' ys m I5 hns hCn hCL hCs hCc hCp sF' R' hFD h0D hD dn;have q:RW X.K H0 F' H' (.new res) (.ref Da):=RW.n hFD h0D hD dn;refine xh (S.after (sF1.trans sF') R' q) fun F3 s3 S3 q3=>?_;refine wpAny_assign_Name (zmf I5 hN hi' hx (v:=.ref Da) (u:=.ref Da) rfl (fun s6 I6 hz=>xa hz fun a6 sb6 ha6=>⟨m,?_,fun h' sb=>?_⟩) hf)
  ·refine hns.sameBut sb6 (fun z=>?_);rcases ha6 with w | w
   ·exact hCL (z.trans w)
   ·exact hCc x a6 w z.symm
  ·refine⟨_,H',I6.turned (t':=s6.toks) (fun b o hb e=>sb.extBut b o hb e) hCn hCL (.inr hCs) hCc hCp,k _ H' F3 s3 (S3.bind q3 ?_ (Owned.not_after S (sF1.trans sF') q))⟩
   rw [<- S3.len,S.len];exact hl
end
end DL
namespace DL
open PySem L2 PyProof.Rows
structure TC where
 N:List Str
 sc:Scope
 fns:List (Str×Nat×Nat)
 rzs:List (Str×Nat×Nat)
 xs:Bool
noncomputable def ixOf (x:Str):List Str->Option Nat
 | []=>none
 | y::l=>if x=y then some 0 else (ixOf x l).map (· + 1)
theorem zep {x:Str}:∀ {l:List Str} {i:Nat},ixOf x l=some i->l[i]? = some x
 | [],_,h=>by cases h
 | y::l,i,h=>by
  unfold ixOf at h;by_cases e:x=y
  ·rw [if_pos e] at h;cases h;simp [e]
  ·rw [if_neg e] at h;refine xa (Zb.mp h) fun j hj e2=>?_;subst e2;simpa using zep hj
noncomputable def slot (c:TC) (x:Str):Option Nat:=
 if (x == ("__debug__" : Str))=true\/(x == ("__classdict__" : Str))=true then none else match c.sc.names.lookup x with
  | some .local=>ixOf x c.N
  | some .cell=>ixOf x c.N
  | _=>none
noncomputable def isGl (c:TC) (x:Str):Bool:=!(x == ("__debug__" : Str)) && decide (c.sc.names.lookup x=some .globalImplicit)
noncomputable def trOp:Operator->Option Op
 | .Add=>some .add
 | .Sub=>some .sub
 | .Mult=>some .mul
 | .FloorDiv=>some .fdiv
 | .Mod=>some .mod
 | .Pow=>some .pow
 | _=>none
noncomputable def trCm:CmpOp->Option Cm
 | .Lt=>some .lt
 | .LtE=>some .le
 | .Gt=>some .gt
 | .GtE=>some .ge
 | .Eq=>some .eq
 | .NotEq=>some .ne
 | .Is=>some .isN
 | .IsNot=>some .notN
 | .In=>some .isin
 | .NotIn=>some .notin
noncomputable def trTy (x:Str):Option Ty:=
 if x=Str.ofString Ty.int.nm then some .int else if x=Str.ofString Ty.bool.nm then some .bool else if x=Str.ofString Ty.tuple.nm then some .tuple else if x=Str.ofString Ty.list.nm then some .list else none
noncomputable def Bi.nm:Bi->String
 | .len => "len" | .abs => "abs" | .min => "min" | .max => "max"
noncomputable def trBi (x:Str):Option Bi:=if x=Str.ofString Bi.len.nm then some .len else if x=Str.ofString Bi.abs.nm then some .abs else if x=Str.ofString Bi.min.nm then some .min else if x=Str.ofString Bi.max.nm then some .max else none
inductive Hd where
 | fn (f n:Nat) | bi (b:Bi) | isi | lst | no
noncomputable def zer (c:TC) (x:Str):Hd:=
 if isGl c x=true then match c.fns.lookup x with
  | some (f,n)=>.fn f n
  | none=>match trBi x with
   | some b=>.bi b
   | none=>if x=("isinstance" : Str) then .isi else if x=("list" : Str) then .lst else .no
 else .no
noncomputable def locs (sc:Scope):List Str:=sc.names.filterMap fun y=>if y.2=NameKind.local then some y.1 else none
noncomputable def frs' (sc:Scope):List Str:=sc.names.filterMap fun y=>if y.2=NameKind.free then some y.1 else none
noncomputable def relS (scope sc:Scope):Scope:={scope with names:=scope.names.map fun (n,k)=>if (k == NameKind.free && sc.kind == .function && sc.names.lookup n == some .cell)=true then (n,NameKind.cell) else (n,k)}
noncomputable def frIx (N:List Str):List Str->Option (List Nat)
 | []=>some []
 | x::l=>(ixOf x N).bind fun i=>(frIx N l).map fun r=>i::r
noncomputable def ztt (c:TC) (scope:Scope):Bool:=
 decide (scope.kind=.function) && scope.names.all (fun y=>decide (y.2 ≠ .cell)) && scope.names.all (fun y=>decide (y.2=.local->scope.names.lookup y.1=some .local)) &&
 scope.names.all (fun y=>decide (y.2=.free->c.sc.names.lookup y.1=some .cell/\scope.names.lookup y.1=some .free)) && decide ((locs scope++frs' scope).Nodup) && decide (c.sc.kind=.function)
noncomputable def isTup:Expr->Bool
 | .Tuple _ _ _=>true
 | _=>false
noncomputable def yby:Expr->Bool
 | .Set _ _ _=>true
 | _=>false
noncomputable def isB (c:TC) (x:Str) (y:String):Bool:=isGl c x && (c.fns.lookup x).isNone && decide (x=Str.ofString y)
noncomputable def fmN (c:TC) (x:Str):List Expr->Option (Fm×List Expr)
 | [.Call (.Name y _) (a::as) [] _]=>if isB c x "sorted" = true/\isB c y "set" = true then some (.ss,a::as) else if isB c x "list" = true/\isB c y "reversed" = true then some (.rev,a::as) else if isB c x "list" = true/\isB c y "zip" = true then some (.zip,a::as) else none
 | _=>none
noncomputable def fmT (c:TC) (x:Str):List Expr->Option (Fm×List Expr)
 | [a]=>if isB c x "tuple" = true then some (.tupl,[a]) else none
 | _=>none
noncomputable def fmOf (c:TC) (x:Str) (es:List Expr):Option (Fm×List Expr):=match fmN c x es with
 | some r=>some r
 | none=>fmT c x es
noncomputable def trI1 (rE:Expr->Option E) (c:TC) (tg:Expr):Expr->Option It'
 | .Call (.Name x p) [a] [] q=>if isB c x "range" = true/\Bs a=true then (rE a).map It'.range1 else (rE (.Call (.Name x p) [a] [] q)).map It'.seq
 | .Call (.Name x p) [a,b] [] q=>if isB c x "range" = true/\Bs a=true/\Bs b=true then (rE a).bind fun a'=>(rE b).map fun b'=>It'.range2 a' b' else (rE (.Call (.Name x p) [a,b] [] q)).map It'.seq
 | .Name x _=>(slot c x).map It'.seqV
 | e=>if yby e=false then (rE e).map It'.seq else none
noncomputable def yaj (c:TC) (x:Str):Option Nat:=if c.sc.names.lookup x=some .local then ixOf x c.N else none
noncomputable def zml (c:TC):List Expr->Option (List Nat)
 | []=>some []
 | .Name x _::es=>(yaj c x).bind fun i=>(zml c es).map fun l=>i::l
 | _=>none
noncomputable def yaa (c:TC):Expr->Option Tg
 | .Name x _=>(yaj c x).map Tg.name
 | .Tuple es _ _=>(zml c es).map Tg.tup
 | _=>none
noncomputable def blkC (c:TC) (scope:Scope):TC:=⟨locs scope++frs' scope,relS scope c.sc,c.fns,c.rzs,c.xs⟩
noncomputable def zmz:Expr->Bool
 | .Name _ _=>true
 | .Constant _ _ _=>true
 | .Call _ _ _ _=>true
 | .Subscript _ _ _=>true
 | _=>false
noncomputable def ygd (rE:Expr->Option E) (p:Pos):List Expr->Option E
 | [a]=>rE a
 | a::b::es=>(rE a).bind fun a'=>(rE (.BoolOp .And (b::es) p)).map fun b'=>.and a' b'
 | []=>none
noncomputable def trOr (rE:Expr->Option E) (p:Pos):List Expr->Option E
 | [a]=>rE a
 | a::b::es=>(rE a).bind fun a'=>(rE (.BoolOp .Or (b::es) p)).map fun b'=>.or a' b'
 | []=>none
noncomputable def trB (rE:Expr->Option E) (p:Pos) (es:List Expr):BoolOp->Option E
 | .And=>ygd rE p es
 | .Or=>trOr rE p es
noncomputable def trCp (rE:Expr->Option E) (a:Expr):List CmpOp->List Expr->Option E
 | [op],[b]=>if behindInMarks op b=false then (trCm op).bind fun o=>(rE a).bind fun a'=>(rE b).map fun b'=>.cmp o a' b' else none
 | _,_=>none
noncomputable def trN (rT:Expr->Option E) (a:Expr):UnaryOp->Option E
 | .Not=>(rT a).map E.not
 | _=>none
noncomputable def trT1 (rE:Expr->Option E) (rT:Expr->Option E):Expr->Option E
 | .UnaryOp o a _=>trN rT a o
 | .BoolOp o es p=>trB rT p es o
 | .Compare a ops bs _=>trCp rE a ops bs
 | e=>if zmz e=true then rE e else none
noncomputable def zup (rT:Expr->Option E):List Expr->Option EO
 | []=>some .non
 | [c]=>(rT c).map EO.som
 | _=>none
noncomputable def trK:Const->Option E
 | .int i=>some (.int i)
 | .bool b=>some (.bl b)
 | .none=>some .non
 | _=>none
noncomputable def trU (rE:Expr->Option E) (a:Expr):UnaryOp->Option E
 | .USub=>(rE a).map E.neg
 | .Not=>(rE a).map E.not
 | _=>none
noncomputable def trLC (rC:TC->Expr->Option E) (rT:TC->Expr->Option E) (rE:Expr->Option E) (c:TC) (elt:Expr) (scope:Scope):List Comprehension->Option E
 | [⟨tg,iter,ifs,0⟩]=>if ztt c scope=true then (trI1 rE c tg iter).bind fun it=>(yaa (blkC c scope) tg).bind fun t=>(frIx c.N (frs' scope)).bind fun fr=>
   (rC (blkC c scope) elt).bind fun e=>(zup (rT (blkC c scope)) ifs).map fun k=>.comp e t it (locs scope).length fr k else none
 | _=>none
noncomputable def trSb (rE:Expr->Option E) (rO:Option Expr->Option EO) (a:Expr):Expr->Option E
 | .Slice lo hi none _=>(rE a).bind fun a'=>(rO lo).bind fun l=>(rO hi).map fun h=>.sl a' l h
 | b=>if zdk b=true then (rE a).bind fun a'=>(rE b).map fun b'=>.ix a' b' else none
noncomputable def trIx (rE:Expr->Option E) (c:TC) (nm:Str) (x:Str) (ap cp:Pos) (e:Expr):Option E:=
 if nm=("index" : Str)/\Bs e=true/\(ap.endLine == cp.line)=true then (slot c x).bind fun i=>(rE e).map fun b=>.idx (.var i) b else none
noncomputable def zuq (rE:Expr->Option E) (rEs:List Expr->Option Es) (c:TC) (x:Str) (e:Expr) (es:List Expr):Option E:=match fmOf c x (e::es) with
  | some (f,as)=>(rEs as).map (E.fm f)
  | none=>match zer c x with
  | .fn f k=>if (e::es).length=k then (rEs (e::es)).map (E.call f) else none
  | .bi b=>(rEs (e::es)).map (E.bi b)
  | .isi=>match es with
   | [.Name y _]=>if isGl c y=true/\Bs e=true then (match trTy y with
     | some t=>(rE e).map fun e'=>.isi e' t
     | none=>none) else none
   | _=>none
  | .lst=>match es with
   | []=>if Bs e=true then (rE e).map E.lcp else none
   | _=>none
  | .no=>none
noncomputable def trE1 (rC:TC->Expr->Option E) (rT:TC->Expr->Option E) (rE:Expr->Option E) (rEs:List Expr->Option Es) (rO:Option Expr->Option EO) (c:TC):Expr->Option E
 | .Name x _=>(slot c x).map E.var
 | .Constant k _ _=>trK k
 | .BinOp a op b _=>(trOp op).bind fun o=>(rE a).bind fun a'=>(rE b).map fun b'=>.bin o a' b'
 | .UnaryOp o a _=>trU rE a o
 | .BoolOp o es p=>trB rE p es o
 | .Compare a ops bs _=>trCp rE a ops bs
 | .Tuple es _ _=>(rEs es).map E.tup
 | .List es _=>(rEs es).map E.lst
 | .ListComp elt gs scope _=>trLC rC rT rE c elt scope gs
 | .Subscript a b _=>trSb rE rO a b
 | .Call (.Attribute (.Name x _) nm ap) [e] [] cp=>trIx rE c nm x ap cp e
 | .Call (.Name x _) (e::es) [] _=>zuq rE rEs c x e es
 | _=>none
mutual
noncomputable def trE:Nat->TC->Expr->Option E
 | 0,_,_=>none
 | n+1,c,e=>trE1 (trE n) (trT n) (trE n c) (trEs n c) (trO n c) c e
noncomputable def trEs:Nat->TC->List Expr->Option Es
 | 0,_,_=>none
 | n+1,c,[]=>some .nil
 | n+1,c,e::es=>if Bs e=true then (trE n c e).bind fun e'=>(trEs n c es).map fun l=>.cons e' l else none
noncomputable def trO:Nat->TC->Option Expr->Option EO
 | 0,_,_=>none
 | n+1,c,none=>some .non
 | n+1,c,some e=>(trE n c e).map EO.som
noncomputable def trT:Nat->TC->Expr->Option E
 | 0,_,_=>none
 | n+1,c,e=>trT1 (trE n c) (trT n c) e
end
theorem zmy {e:Expr} {env:Env} (h:zmz e=true):∀ whole,isTrue e env whole=(do let v <- whole;standAt e.pos;holding [v] (truthy v)):=fun whole=>by
 cases e <;> first | rfl | (cases h;done)
noncomputable abbrev zcg:List Str:=[Str.ofString "len", Str.ofString "abs", Str.ofString "isinstance", Str.ofString "int", Str.ofString "bool", Str.ofString "tuple", Str.ofString "list", Str.ofString "range", Str.ofString "enumerate", Str.ofString "min", Str.ofString "max", Str.ofString "sorted", Str.ofString "set", Str.ofString "reversed", Str.ofString "zip", Str.ofString "sum"]
structure XE (X:Cx) (c:TC) (Γ:Nat->List D->Option W):Prop where
 hN:X.N=c.N
 hsc:X.env.scope=c.sc
 nd:c.N.Nodup
 calm:X.calm=true
 kind:X.env.scope.kind=.function
 calls:∀ x f n,c.fns.lookup x=some (f,n)->yfp X x n (Γ f)
 xf:c.xs=true->XFacts X.K X.mg
 un:X.A.units+64<cLine
 blt:∀ x∈zcg,X.mg x=none
structure XC (X:Cx) (c:TC) (Γ:Nat->List D->Option W):Prop extends XE X c Γ where
 fn:∀ x,X.fn x=true
 po:PassesOwn (model X.prog X.w) X.A X.env X.xe
 rz:∀ x f n,c.rzs.lookup x=some (f,n)->yku X x n (Γ f)
 st:X.stack=X.env::X.outer
 fr:X.env.frame=some X.env.locals
 nx:X.nox=X
section
variable {X:Cx} {c:TC} {Γ:Nat->List D->Option W}
theorem zax (hX:XE X c Γ) {x:Str} {i:Nat} (h:slot c x=some i):X.N[i]? = some x/\Loc X.env.scope x/\(x == ("__debug__" : Str))=false/\(x == ("__classdict__" : Str))=false:=by
 unfold slot at h;by_cases z:(x == ("__debug__" : Str))=true\/(x == ("__classdict__" : Str))=true
 ·rw [if_pos z] at h;cases h
 ·rw [if_neg z] at h;have z1:(x == ("__debug__" : Str))=false:=by
   cases q:(x == ("__debug__" : Str)) with
   | false=>rfl
   | true=>exact absurd (.inl q) z
  have z2:(x == ("__classdict__" : Str))=false:=by
   cases q:(x == ("__classdict__" : Str)) with
   | false=>rfl
   | true=>exact absurd (.inr q) z
  split at h
  ·rename_i e;exact⟨by rw [hX.hN];exact zep h,by rw [hX.hsc];exact .inl e,z1,z2⟩
  ·rename_i e;exact⟨by rw [hX.hN];exact zep h,by rw [hX.hsc];exact .inr e,z1,z2⟩
  ·cases h
theorem Loc.vis {sc:Scope} {x:Str} (h:Loc sc x):Vis sc x:=by
 rcases h with h | h
 ·exact .inl h
 ·exact .inr (.inl h)
theorem zfl (hX:XE X c Γ) {x:Str} (h:isGl c x=true):Gl X x/\(x == ("__debug__" : Str))=false:=by
 unfold isGl at h;rw [Zm] at h;refine⟨?_,by simpa using h.1⟩
 show X.env.scope.names.lookup x=_;rw [hX.hsc];exact of_decide_eq_true h.2
theorem zdz {ρ:Rho} {i:Nat} {d:D} (h:varD ρ i=some d):ρ[i]? = some (some d):=by
 unfold varD at h;split at h
 ·rename_i e;cases h;exact e
 ·cases h
theorem zde {d:D} {i:Int} (h:dInt d=some i):d=.int i:=by
 cases d <;> first | (cases h;rfl) | (cases h;done)
theorem zts {d:D} {i:Bool} (h:zco d=some i):d=.bl i:=by
 cases d <;> first | (cases h;rfl) | (cases h;done)
theorem zni {o:Option W} {d:D} (h:o.map W.d=some d):∃ w,o=some w/\w.d=d:=Zb.mp h
theorem zzg {f:Int->Int->Option W} {x y:D} {w:W} (h:arW f x y=some w):∃ a b,x=.int a/\y=.int b/\f a b=some w:=by
 unfold arW at h;split at h
 ·exact⟨_,_,rfl,rfl,h⟩
 ·cases h
theorem op_ok {e1 e2:Expr} {op:Operator} {o:Op} {x y:D} {w:W} {ρ:Rho} {pos:Pos} (ho:trOp op=some o) (ha:DF X e1 ρ x) (hb:DF X e2 ρ y) (h:opW o x y=some w):DE X (.BinOp e1 op e2 pos) ρ w:=by
 have bits:∀ {a:Int} {n:Nat},a.natAbs<2^n->Builtin.Int.intBits a<=n:=fun {a n} h=>by
  unfold Builtin.Int.intBits;by_cases z:a=0
  ·rw [if_pos (by simpa using z)];exact Ya _
  ·rw [if_neg (by simpa using z)];have:=(Nat.log2_lt (by omega)).mpr h
   omega
 cases op <;> first | (cases ho;done) | skip
 all_goals cases ho
 ·change addW x y=some w at h
  unfold addW at h;split at h
  ·cases h;exact DE.opI0 op_add ha hb fun K F=>Den.int_mk
  ·rename_i l m;by_cases q:l.length+m.length<=sizeLine
   ·rw [if_pos q] at h;cases h;exact DE.cat ha hb q
   ·rw [if_neg q] at h;cases h
  ·cases h
 ·refine xc (zzg h) fun i j qz2 qz3 h'=>?_;subst qz2;subst qz3
  clear h;have h:=h';clear h';cases h;exact DE.opI0 op_sub ha hb fun K F=>Den.int_mk
 ·refine xc (zzg h) fun i j qz2 qz3 h'=>?_;subst qz2;subst qz3
  clear h;have h:=h';clear h';by_cases q:B0 i j=true
  ·rw [if_pos q] at h;cases h;unfold B0 at q;rw [Zm] at q;have q1:=of_decide_eq_true q.1;have q2:=of_decide_eq_true q.2;exact DE.opI (C:=IntMulOk) (L2.opI fun _ _ _ _ _ _ _ hc q=>mul_int q hc) ha hb (PySem.IntMulOk.of_bits (Y3 (bits q1) (by decide)) (Y3 (bits q2) (by decide))) fun K F=>Den.int_mk
  ·rw [if_neg q] at h;cases h
 ·refine xc (zzg h) fun i j qz2 qz3 h'=>?_;subst qz2;subst qz3
  clear h;have h:=h';clear h';by_cases q:j=0
  ·rw [if_pos q] at h;cases h
  ·rw [if_neg q] at h;cases h;exact DE.opI yht ha hb q fun K F=>Den.int_mk
 ·refine xc (zzg h) fun i j qz2 qz3 h'=>?_;subst qz2;subst qz3
  clear h;have h:=h';clear h';by_cases q:zmx i j=true
  ·rw [if_pos q] at h;cases h;unfold zmx at q;rw [Zm,Zm] at q;have q1:=of_decide_eq_true q.1.1;have q2:=of_decide_eq_true q.1.2;have q3:=of_decide_eq_true q.2;exact DE.opI op_pow ha hb ⟨q1,by omega,q3⟩ fun K F=>Den.int_mk
  ·rw [if_neg q] at h;cases h
 ·refine xc (zzg h) fun i j qz2 qz3 h'=>?_;subst qz2;subst qz3
  clear h;have h:=h';clear h';by_cases q:zcy j=true
  ·rw [if_pos q] at h;cases h;unfold zcy at q;rw [Zm] at q;have q1:=of_decide_eq_true q.1;have q2:=of_decide_eq_true q.2;refine DE.opI (C:=fun i j=>j≠0/\j.natAbs<2^9000) (L2.opI fun _ _ _ _ _ _ _ hc q=>floordiv_int hc.1 q (.inl (PyProof.noPylong_of_log2 ?_))) ha hb ⟨q1,q2⟩ fun K F=>Den.int_mk
   refine (Nat.log2_lt ?_).mpr hc.2;have:=hc.1
   omega
  ·rw [if_neg q] at h;cases h
end
end DL
namespace DL
open PySem L2 PyProof.Rows
section
variable {X:Cx} {c:TC} {Γ:Nat->List D->Option W}
theorem two_of {a b:Bool} (h:(a && b)=true):a=true/\b=true:=by simpa using h
theorem zra {f:Int->Int->Bool} {x y:D} {k:Bool} (h:ordO f x y=some k):∃ a b,x=.int a/\y=.int b/\f a b=k:=by
 unfold ordO at h;split at h
 ·cases h;exact⟨_,_,rfl,rfl,rfl⟩
 ·cases h
theorem inO_s {x y:D} {k:Bool} (h:inO x y=some k):∃ l,y=.lst l/\dOk 50 x=true/\dOkL 49 l=true/\(l.any fun y=>eqD y x)=k:=by
 unfold inO at h;split at h
 ·split at h
  ·rename_i q;cases h;exact⟨_,rfl,(two_of q).1,(two_of q).2,rfl⟩
  ·cases h
 ·cases h
theorem yek {x y:D} {k:Bool} (h:nonO x y=some k):y=.non/\znr x=k:=by
 unfold nonO at h;split at h
 ·cases h;exact⟨rfl,rfl⟩
 ·cases h
theorem yff {x y:D} {k:Bool} (hu:X.A.units+64<cLine) (h:eqO x y=some k):zcr X .Eq x y k/\zcr X .NotEq x y (!k):=by
 have dl:∀ {l:List D},dOkL 49 l=true->dOk 50 (.lst l)=true:=fun q=>by simp only [dOk];exact q
 have dt:∀ {l:List D},dOkL 49 l=true->dOk 50 (.tup l)=true:=fun q=>by simp only [dOk];exact q
 unfold eqO at h;split at h
 ·cases h;exact⟨yjv,yjr⟩
 ·cases h;exact⟨yjw,yjs⟩
 ·split at h
  ·rename_i q;cases h;have z:=zyg (X:=X) hu (dt (two_of q).1) (dt (two_of q).2);have z2:=zyf (X:=X) hu (dt (two_of q).1) (dt (two_of q).2);simp only [eqD] at z z2;exact⟨z,z2⟩
  ·cases h
 ·split at h
  ·rename_i q;cases h;have z:=zyg (X:=X) hu (dl (two_of q).1) (dl (two_of q).2);have z2:=zyf (X:=X) hu (dl (two_of q).1) (dl (two_of q).2);simp only [eqD] at z z2;exact⟨z,z2⟩
  ·cases h
 ·cases h
theorem yfj {op:CmpOp} {o:Cm} {x y:D} {k:Bool} (hu:X.A.units+64<cLine) (ho:trCm op=some o) (h:cmpD o x y=some k):zcr X op x y k:=by
 cases op <;> first | (cases ho;done) | skip
 all_goals cases ho
 ·exact (yff hu h).1
 ·refine xa (Zb.mp h) fun j hj e=>?_;subst e;exact (yff hu hj).2
 ·refine xc (zra h) fun a b qz2 qz3 qz4=>?_;subst qz2;subst qz3;subst qz4
  exact cmp_lt
 ·refine xc (zra h) fun a b qz2 qz3 qz4=>?_;subst qz2;subst qz3;subst qz4
  exact cmp_le
 ·refine xc (zra h) fun a b qz2 qz3 qz4=>?_;subst qz2;subst qz3;subst qz4
  exact cmp_gt
 ·refine xc (zra h) fun a b qz2 qz3 qz4=>?_;subst qz2;subst qz3;subst qz4
  exact cmp_ge
 ·refine xg (yek h) fun qz0 qz1=>?_;subst qz0;subst qz1
  exact yjt
 ·refine xa (Zb.mp h) fun j hj e=>?_;subst e;refine xg (yek hj) fun qz0 qz1=>?_;subst qz0;subst qz1
  exact ycs
 ·refine xG (inO_s h) fun l qz1 h1 h2 qz4=>?_;subst qz1;subst qz4
  exact yju hu h1 h2
 ·refine xa (Zb.mp h) fun j hj e=>?_;subst e;refine xG (inO_s hj) fun l qz1 h1 h2 qz4=>?_;subst qz1;subst qz4
  exact yct hu h1 h2
theorem zum {x:Str} {t:Ty} (h:trTy x=some t):x=Str.ofString t.nm:=by
 unfold trTy at h;repeat' split at h
 all_goals first | (cases h;assumption) | (cases h;done)
theorem zur {x:Str} {t:Bi} (h:trBi x=some t):x=Str.ofString t.nm:=by
 unfold trBi at h;repeat' split at h
 all_goals first | (cases h;assumption) | (cases h;done)
theorem bi_ok {b:Bi} {ds:List D} {w:W} (hc:X.calm=true) (hu:X.A.units+64<cLine) (h:biW b ds=some w):zgm X (.builtin b.nm) ds w:=by
 cases b
 ·change lenW ds=_ at h
  unfold lenW at h;split at h
  ·cases h;exact yda
  ·cases h;exact ycz
  ·cases h
 ·change absW ds=_ at h
  unfold absW at h;split at h
  ·cases h;exact ykf
  ·cases h
 ·change minW ds=_ at h
  unfold minW at h;split at h
  ·cases h;exact ykd hc
  ·refine xa (Zb.mp h) fun m h1 e=>?_;subst e;exact ycx hc hu h1
  ·cases h
 ·change maxW ds=_ at h
  unfold maxW at h;split at h
  ·cases h;exact yke hc
  ·cases h
theorem ykc (b:Bi):bootBuiltins (Str.ofString b.nm)=some (.builtin b.nm):=by cases b <;> decide +kernel
theorem zys (b:Bi):Str.ofString b.nm ≠ "__name__" /\ Str.ofString b.nm∈zcg:=by cases b <;> decide +kernel
theorem yfw (b:Ty):Str.ofString b.nm∈zcg:=by cases b <;> decide +kernel
theorem zeb:∀ {n:Nat} {es:List Expr} {l:Es},trEs n c es=some l->es.all Bs=true
 | 0,_,_,h=>by simp only [trEs] at h;cases h
 | n+1,[],_,_=>rfl
 | n+1,e::es,l,h=>by
  simp only [trEs] at h;by_cases q:Bs e=true
  ·rw [if_pos q] at h;refine xa (Za.mp h) fun e' _ h=>?_;refine xa (Zb.mp h) fun l' h _=>?_;rw [W7,q,zeb h];rfl
  ·rw [if_neg q] at h;cases h
theorem yjb:∀ {l:Es} {ρ:Rho} {ds:List D} {n:Nat} {es:List Expr},trEs n c es=some l->evs Γ l ρ=some ds->ds.length=es.length:=by
 intro l ρ ds n;induction n generalizing l ds with
 | zero=>intro es h;simp only [trEs] at h;cases h
 | succ n ih=>
  intro es h hv;cases es with
  | nil=>
   simp only [trEs] at h;cases h;simp only [evs] at hv;cases hv;rfl
  | cons e es=>
   simp only [trEs] at h;by_cases q:Bs e=true
   ·rw [if_pos q] at h;refine xa (Za.mp h) fun e' _ h=>?_;refine xa (Zb.mp h) fun l' h3 z=>?_;subst z;simp only [evs] at hv;refine xa (Za.mp hv) fun d _ hv=>?_;refine xa (Zb.mp hv) fun ds' hv3 z=>?_;subst z;rw [Zj,Zj,ih h3 hv3]
   ·rw [if_neg q] at h;cases h
theorem ztm {x:Str} (hX:XE X c Γ) (hh:zer c x=.isi):x=("isinstance" : Str)/\Gl X "isinstance" := by
 unfold zer at hh;split at hh
 ·rename_i hg;split at hh
  ·cases hh
  ·split at hh
   ·cases hh
   ·split at hh
    ·rename_i ex;subst ex;exact⟨rfl,(zfl hX hg).1⟩
    ·split at hh <;> cases hh
 ·cases hh
theorem ztl {x:Str} (hX:XE X c Γ) (hh:zer c x=.lst):x=("list" : Str)/\Gl X "list" := by
 unfold zer at hh;split at hh
 ·rename_i hg;split at hh
  ·cases hh
  ·split at hh
   ·cases hh
   ·split at hh
    ·cases hh
    ·split at hh
     ·rename_i ex;subst ex;exact⟨rfl,(zfl hX hg).1⟩
     ·cases hh
 ·cases hh
theorem zxk {x:Str} {f k:Nat} (hX:XE X c Γ) (hh:zer c x=.fn f k):c.fns.lookup x=some (f,k)/\Gl X x/\(x == ("__debug__" : Str))=false:=by
 unfold zer at hh;split at hh
 ·rename_i hg;split at hh
  ·rename_i f' k' hf;cases hh;exact⟨hf,zfl hX hg⟩
  ·split at hh
   ·cases hh
   ·split at hh
    ·cases hh
    ·split at hh <;> cases hh
 ·cases hh
theorem zxl {x:Str} {b:Bi} (hX:XE X c Γ) (hh:zer c x=.bi b):x=Str.ofString b.nm/\Gl X x/\(x == ("__debug__" : Str))=false:=by
 unfold zer at hh;split at hh
 ·rename_i hg;split at hh
  ·cases hh
  ·split at hh
   ·rename_i b' hb;cases hh;exact⟨zur hb,zfl hX hg⟩
   ·split at hh
    ·cases hh
    ·split at hh <;> cases hh
 ·cases hh
theorem zdc (hX:XE X c Γ) {x:Str} {y:String} (h:isB c x y=true):Gl X x/\x=Str.ofString y:=by
 unfold isB at h;rw [Zm,Zm] at h;exact⟨(zfl hX h.1.1).1,of_decide_eq_true h.2⟩
theorem yce {x:Str} {es as:List Expr} {f:Fm} (h:fmN c x es=some (f,as)):∃ y p2 q2 a as',es=[.Call (.Name y p2) (a::as') [] q2]/\as=a::as'/\((f=.ss/\isB c x "sorted" = true/\isB c y "set" = true)\/(f=.rev/\isB c x "list" = true/\isB c y "reversed" = true)\/(f=.zip/\isB c x "list" = true/\isB c y "zip" = true)):=by
 unfold fmN at h;split at h
 ·split at h
  ·rename_i q;cases h;exact⟨_,_,_,_,_,rfl,rfl,.inl ⟨rfl,q.1,q.2⟩⟩
  ·split at h
   ·rename_i q;cases h;exact⟨_,_,_,_,_,rfl,rfl,.inr (.inl ⟨rfl,q.1,q.2⟩)⟩
   ·split at h
    ·rename_i q;cases h;exact⟨_,_,_,_,_,rfl,rfl,.inr (.inr (⟨rfl,q.1,q.2⟩))⟩
    ·cases h
 ·cases h
theorem ssW_s {ds:List D} {w:W} (h:ssW ds=some w):∃ l ks,ds=[.lst l]/\zkw l=some ks/\ks.length<=63/\w=.new ((ssK ks).map dK):=by
 unfold ssW at h;split at h
 ·refine xa (Za.mp h) fun ks hk h=>?_;split at h
  ·rename_i hn;cases h;exact⟨_,ks,rfl,hk,hn,rfl⟩
  ·cases h
 ·cases h
theorem revW_s {ds:List D} {w:W} (h:revW ds=some w):∃ l,ds=[.lst l]/\w=.new l.reverse:=by
 unfold revW at h;split at h
 ·cases h;exact⟨_,rfl,rfl⟩
 ·cases h
theorem yfx {ds:List D} {w:W} (h:yfy ds=some w):∃ l,ds=[.lst l]/\w=.val (.tup l):=by
 unfold yfy at h;split at h
 ·cases h;exact⟨_,rfl,rfl⟩
 ·cases h
theorem zipW_s {ds:List D} {w:W} (h:zipW ds=some w):∃ a b,ds=[.lst a,.lst b]/\a.length=b.length/\w=.new (zipD a b):=by
 unfold zipW at h;split at h
 ·split at h
  ·rename_i hn;cases h;exact⟨_,_,rfl,hn,rfl⟩
  ·cases h
 ·cases h
theorem fm_ok (hX:XE X c Γ) {x:Str} {p pos:Pos} {es as:List Expr} {f:Fm} {ds:List D} {w:W} {ρ:Rho} (hf:fmOf c x es=some (f,as)) (hs:as.all Bs=true) (ha:DA X as ρ ds) (hw:fmW f ds=some w):DE X (.Call (.Name x p) es [] pos) ρ w:=by
 have hu:X.A.units+16<cLine:=by have:=hX.un;omega
 unfold fmOf at hf;split at hf
 ·rename_i r hr;cases hf;refine vn (yce hr) fun y p2 q2 a as' qz5 qz6 h=>?_;subst qz5;subst qz6
  rw [W7,Zm] at hs;rcases h with⟨rfl,h1,h2⟩ | ⟨rfl,h1,h2⟩ | ⟨rfl,h1,h2⟩
  ·refine xg (zdc hX h1) fun g1 e1=>?_;refine xg (zdc hX h2) fun g2 e2=>?_;subst e1;subst e2;refine xu (ssW_s hw) fun l0 ks e3 hk hn e4=>?_;subst e3;subst e4;exact DE.nestB (yid hX.calm hu hk hn) g1 (hX.blt _ (by decide +kernel)) (by decide +kernel) (by decide) (by decide) g2 (hX.blt _ (by decide +kernel)) (by decide +kernel) (by decide) (by decide) ha hs.1 hs.2
  ·refine xg (zdc hX h1) fun g1 e1=>?_;refine xg (zdc hX h2) fun g2 e2=>?_;subst e1;subst e2;refine xa (revW_s hw) fun l0 e3 e4=>?_;subst e3;subst e4;exact DE.nestT (ybh hX.calm) g1 (hX.blt _ (by decide +kernel)) (by decide +kernel) (by decide) (by decide) g2 (hX.blt _ (by decide +kernel)) (by decide +kernel) (by decide) (by decide) ha hs.1 hs.2
  ·refine xg (zdc hX h1) fun g1 e1=>?_;refine xg (zdc hX h2) fun g2 e2=>?_;subst e1;subst e2;refine xc (zipW_s hw) fun l0 m0 e3 hn e4=>?_;subst e3;subst e4;exact DE.nestT (ybg hX.calm hn) g1 (hX.blt _ (by decide +kernel)) (by decide +kernel) (by decide) (by decide) g2 (hX.blt _ (by decide +kernel)) (by decide +kernel) (by decide) (by decide) ha hs.1 hs.2
 ·unfold fmT at hf;split at hf
  ·split at hf
   ·rename_i a h1;cases hf;refine xg (zdc hX h1) fun g1 e1=>?_;subst e1;rw [W7,Zm] at hs;refine xa (yfx hw) fun l0 e3 e4=>?_;subst e3;subst e4;exact DE.ty zym g1 (hX.blt _ (by decide +kernel)) (by decide +kernel) (by decide) (by decide) ha hs.1 hs.2
   ·cases hf
  ·cases hf
theorem zmp {d:D} {l:List D} (h:seqD d=some l):d=.lst l\/d=.tup l:=by
 cases d <;> first | (cases h;done) | (cases h;first | exact .inl rfl | exact .inr rfl)
theorem ygb {rE:Expr->Option E} (hX:XE X c Γ) (iF:∀ {e e' ρ d},rE e=some e'->(ev Γ e' ρ).map W.d=some d->DF X e ρ d) {tg e:Expr} {i:It'} {ρ:Rho} {l:List D} (h:trI1 rE c tg e=some i) (hv:evW Γ i ρ=some l):DIe X tg e ρ l/\yby e=false:=by
 have iI:∀ {e e' ρ k},rE e=some e'->((ev Γ e' ρ).map W.d).bind dInt=some k->DF X e ρ (.int k):=fun {e e' ρ k} h hv=>by
  refine xa (Za.mp hv) fun d h1 h2=>?_;rw [zde h2] at h1;exact iF h h1
 have iS:∀ {e e' ρ l},rE e=some e'->evW Γ (.seq e') ρ=some l->DIe X tg e ρ l:=fun {e e' ρ l} h hv=>by
  simp only [evW] at hv;refine xa (Za.mp hv) fun d h1 h2=>?_;rcases zmp h2 with z | z
  ·subst z;exact DIe.list (iF h h1)
  ·subst z;exact DIe.tup (iF h h1)
 unfold trI1 at h;split at h
 ·refine⟨?_,rfl⟩
  split at h
  ·rename_i q;refine xa (Zb.mp h) fun a' ha h=>?_;subst h;simp only [evW] at hv;refine xa (Za.mp hv) fun m hm hv=>?_;split at hv
   ·rename_i z;cases hv;refine xg (zdc hX q.1) fun g1 g2=>?_;subst g2;exact DIe.range1 g1 (hX.blt _ (by decide +kernel)) (DA.cons (iI ha hm) DA.nil q.2) q.2 z.1 z.2
   ·cases hv
  ·refine xa (Zb.mp h) fun e' he h=>?_;subst h;exact iS he hv
 ·refine⟨?_,rfl⟩
  split at h
  ·rename_i q;refine xa (Za.mp h) fun a' ha h=>?_;refine xa (Zb.mp h) fun b' hb h=>?_;subst h;simp only [evW] at hv;refine xa (Za.mp hv) fun m hm hv=>?_;refine xa (Za.mp hv) fun m2 hm2 hv=>?_;split at hv
   ·rename_i z;cases hv;refine xg (zdc hX q.1) fun g1 g2=>?_;subst g2;exact DIe.range2 g1 (hX.blt _ (by decide +kernel)) (DA.cons (iI ha hm) (DA.cons (iI hb hm2) DA.nil q.2.2) q.2.1) q.2.1 q.2.2 z
   ·cases hv
  ·refine xa (Zb.mp h) fun e' he h=>?_;subst h;exact iS he hv
 ·refine xa (Zb.mp h) fun i hi h=>?_;subst h;simp only [evW] at hv;refine xa (Za.mp hv) fun d h1 h2=>?_;refine xk (zax hX hi) fun a1 a2 a3 a4=>?_;refine⟨?_,rfl⟩
  rcases zmp h2 with z | z
  ·subst z;exact DIe.list (DF.var a1 (Loc.vis a2) a3 a4 (zdz h1))
  ·subst z;exact DIe.tup (DF.var a1 (Loc.vis a2) a3 a4 (zdz h1))
 ·split at h
  ·rename_i q;refine xa (Zb.mp h) fun e' he h=>?_;subst h;exact⟨iS he hv,q⟩
  ·cases h
theorem noSet {e:Expr} {env:Env} (h:yby e=false):∀ x,foldedSetIterable e env x=pure x:=fun x=>by
 cases e <;> first | (cases h;done) | rfl
theorem blk_xe (hX:XE X c Γ) {scope:Scope} (hB:ztt c scope=true) {X':Cx} (h:ydp X scope (locs scope++frs' scope) X'):XE X' (blkC c scope) Γ:=by
 refine vz h fun cl C s₀ H₀ ex qz5=>?_;clear h;subst qz5
 unfold ztt at hB;simp only [Zm,decide_eq_true_eq] at hB;obtain⟨⟨⟨⟨⟨b1,b2⟩,b3⟩,b4⟩,b5⟩,b6⟩:=hB
 refine⟨rfl,?_,b5,hX.calm,?_,hX.calls,hX.xf,hX.un,hX.blt⟩
 ·show relabel scope X.env=relS scope c.sc;rw [<- hX.hsc];rfl
 ·show (relabel scope X.env).kind=.function;exact b1
theorem ybl {sc:Scope} {x:Str} (h:x∈frs' sc):(x,NameKind.free)∈sc.names:=by
 unfold frs' at h;refine xa (Kb.mp h) fun y hy e=>?_;split at e
 ·rename_i k;cases e;rw [<- k];exact hy
 ·cases e
theorem zrs {N:List Str}:∀ {l:List Str} {fr:List Nat},frIx N l=some fr->fr.length=l.length/\∀ (m:Nat) (x:Str),l[m]? = some x->∃ j:Nat,fr[m]? = some j/\N[j]? = some x
 | [],fr,h=>by simp only [frIx] at h;cases h;exact⟨rfl,fun m x e=>by simp at e⟩
 | y::l,fr,h=>by
  simp only [frIx] at h;refine xa (Za.mp h) fun i hi h=>?_;refine xa (Zb.mp h) fun r hr h=>?_;subst h;refine xg (zrs hr) fun g1 g2=>?_;refine⟨by rw [Zj,Zj,g1],fun m x e=>?_⟩
  cases m with
  | zero=>simp at e;subst e;exact⟨i,by simp,zep hi⟩
  | succ m=>simpa using g2 m x (by simpa using e)
theorem yjq (hX:XE X c Γ) {scope:Scope} {fr:List Nat} (hB:ztt c scope=true) (hf:frIx c.N (frs' scope)=some fr):CompOk X scope (locs scope) (frs' scope) fr:=by
 unfold ztt at hB;simp only [Zm,decide_eq_true_eq,U3] at hB;obtain⟨⟨⟨⟨⟨b1,b2⟩,b3⟩,b4⟩,b5⟩,b6⟩:=hB
 refine xg (zrs hf) fun g1 g2=>?_;refine⟨b1,b2,b3,fun y hy hk=>?_,fun m x e=>?_,g1⟩
 ·show X.env.scope.names.lookup y.1=_;rw [hX.hsc];exact (b4 y hy hk).1
 ·refine xa (g2 m x e) fun j e1 e2=>?_;have:=b4 _ (ybl (Zn e)) rfl
  refine⟨this.2,?_,j,e1,by rw [hX.hN];exact e2⟩
  show X.env.scope.names.lookup x=_;rw [hX.hsc];exact this.1
theorem zql (hX:XE X c Γ) {x:Str} {i:Nat} (h:yaj c x=some i):X.N[i]? = some x/\X.env.scope.names.lookup x=some .local:=by
 unfold yaj at h;split at h
 ·rename_i k;exact⟨by rw [hX.hN];exact zep h,by rw [hX.hsc];exact k⟩
 ·cases h
theorem zee {ρ ρ':Rho} {i:Nat} {d:D} (h:setE ρ i d=some ρ'):i<ρ.length/\ρ'=ρ.set i (some d):=by
 unfold setE at h;by_cases q:i<ρ.length
 ·rw [if_pos q] at h;cases h;exact⟨q,rfl⟩
 ·rw [if_neg q] at h;cases h
theorem zmk (hX:XE X c Γ):∀ {ts:List Expr} {is:List Nat} {ds:List D} {ρ ρ':Rho},zml c ts=some is->zch is ds ρ=some ρ'->DGse X ts ds ρ ρ'/\ts.all Bs=true/\ds.length=ts.length
 | [],is,ds,ρ,ρ',h,hb=>by
  simp only [zml] at h;cases h;cases ds with
  | nil=>cases hb;exact⟨DGse.nil,rfl,rfl⟩
  | cons d ds=>cases hb
 | t::ts,is,ds,ρ,ρ',h,hb=>by
  unfold zml at h;split at h
  ·rename_i z;cases z
  ·rename_i x p es z;cases z;refine xa (Za.mp h) fun i hi h=>?_;refine xa (Zb.mp h) fun l hl h=>?_;subst h;cases ds with
   | nil=>cases hb
   | cons d ds=>
    simp only [zch] at hb;refine xa (Za.mp hb) fun ρ1 h1 hb=>?_;refine xg (zee h1) fun q e=>?_;subst e;refine xj (zmk hX hl hb) fun g g2 g3=>?_;refine xg (zql hX hi) fun a1 a2=>?_;exact⟨DGse.cons (DGe.name (by rw [hX.hN];exact hX.nd) a1 a2 q) g rfl,by rw [W7,g2];rfl,by rw [Zj,Zj,g3]⟩
  ·cases h
theorem zzz (hX:XE X c Γ) {tg:Expr} {t:Tg} (h:yaa c tg=some t) {d:D} {ρ ρ':Rho} (hb:zbo t d ρ=some ρ'):DGe X tg d ρ ρ':=by
 unfold yaa at h;split at h
 ·refine xa (Zb.mp h) fun i hi h=>?_;subst h;simp only [zbo] at hb;refine xg (zee hb) fun q e=>?_;subst e;refine xg (zql hX hi) fun a1 a2=>?_;exact DGe.name (by rw [hX.hN];exact hX.nd) a1 a2 q
 ·refine xa (Zb.mp h) fun l hl h=>?_;subst h;cases d <;> first | (simp only [zbo] at hb;cases hb;done) | skip
  simp only [zbo] at hb;refine xj (zmk hX hl hb) fun g g2 g3=>?_;exact DGe.tup hX.calm g g2 g3
 ·cases h
theorem zet {nt:Nat} {fr:List Nat} {ρ0:Rho}:∀ {is:List Nat} {ds:List D} {ρ ρ':Rho},(is.all fun i=>decide (i<nt))=true->zch is ds ρ=some ρ'->(∀ (i:Nat) d,(blkR nt fr ρ0)[i]? = some (some d)->ρ[i]? = some (some d))->∀ (i:Nat) d,(blkR nt fr ρ0)[i]? = some (some d)->ρ'[i]? = some (some d)
 | [],ds,ρ,ρ',_,hb,h=>by
  cases ds with
  | nil=>cases hb;exact h
  | cons d ds=>cases hb
 | j::is,ds,ρ,ρ',hj,hb,h=>by
  cases ds with
  | nil=>cases hb
  | cons d ds=>
   rw [W7,Zm] at hj;simp only [zch] at hb;refine xa (Za.mp hb) fun ρ1 h1 hb=>?_;refine xg (zee h1) fun q e=>?_;subst e;refine zet hj.2 hb fun i d' e=>?_;refine xc (zdp e) fun m _ e1 _ _=>?_;have:=of_decide_eq_true hj.1
   rw [Ym (by omega)];exact h i d' e
theorem zoc {nt:Nat} {fr:List Nat} {ρ0:Rho} {t:Tg} {d:D} {ρ':Rho} (ht:tgOk nt t=true) (hb:zbo t d (blkR nt fr ρ0)=some ρ'):∀ (i:Nat) d,(blkR nt fr ρ0)[i]? = some (some d)->ρ'[i]? = some (some d):=by
 cases t with
 | name j=>
  simp only [zbo] at hb;refine xg (zee hb) fun q e=>?_;subst e;intro i d' e;refine xc (zdp e) fun m _ e1 _ _=>?_;have:=of_decide_eq_true ht
  rw [Ym (by omega)];exact e
 | tup is=>
  cases d <;> first | (simp only [zbo] at hb;cases hb;done) | skip
  simp only [zbo] at hb;exact zet ht hb fun i d e=>e
def zzl (X:Cx) (elt tg iter:Expr) (ifs:List Expr) (scope:Scope) (ρ:Rho) (w:W):Prop:=∃ (items res:List D) (f:D->Option (Option D)) (fr:List Nat),w=.new res/\CompOk X scope (locs scope) (frs' scope) fr/\DIe X tg iter ρ items/\(∀ x,foldedSetIterable iter X.env x=pure x)/\items.length<=sizeLine/\zcp f items=some res /\
 ∀ (X':Cx),ydp X scope (locs scope++frs' scope) X'->∀ (d:D) (o:Option D),d∈items->f d=some o->∃ ρd,DGe X' tg d (blkR (locs scope).length fr ρ) ρd/\(∀ (i:Nat) d,(blkR (locs scope).length fr ρ)[i]? = some (some d)->ρd[i]? = some (some d)) /\
   (match o with | none=>DTs X' ifs ρd false | some e=>DTs X' ifs ρd true/\DF X' elt ρd e)
theorem zju {n:Nat} (hX:XE X c Γ) (iF:∀ {e e' ρ d},trE n c e=some e'->(ev Γ e' ρ).map W.d=some d->DF X e ρ d) (jE:∀ X' c',XE X' c' Γ->∀ e e' ρ w,trE n c' e=some e'->ev Γ e' ρ=some w->DE X' e ρ w)
  (jT:∀ X' c',XE X' c' Γ->∀ e e' ρ k,trT n c' e=some e'->((ev Γ e' ρ).map W.d).bind zco=some k->DT X' e ρ k) {elt tg iter:Expr} {ifs:List Expr} {scope:Scope} {e':E} {ρ:Rho} {w:W}
  (h:(if ztt c scope=true then (trI1 (trE n c) c tg iter).bind fun it=>(yaa (blkC c scope) tg).bind fun t=>(frIx c.N (frs' scope)).bind fun fr=>
   (trE n (blkC c scope) elt).bind fun e=>(zup (trT n (blkC c scope)) ifs).map fun k=>E.comp e t it (locs scope).length fr k else none)=some e') (hv:ev Γ e' ρ=some w):zzl X elt tg iter ifs scope ρ w:=by
 split at h
 case isFalse=>cases h
 rename_i hB;refine xa (Za.mp h) fun it hit h=>?_;refine xa (Za.mp h) fun t ht h=>?_;refine xa (Za.mp h) fun fr hfr h=>?_;refine xa (Za.mp h) fun e1 he1 h=>?_;refine xa (Zb.mp h) fun k hk h=>?_;subst h;simp only [ev] at hv;refine xa (Za.mp hv) fun items hi hv=>?_;split at hv
 case isFalse=>cases hv
 rename_i z;refine xa (Zb.mp hv) fun res hres hv=>?_;subst hv;refine xg (ygb hX (fun h hv=>iF h hv) hit hi) fun d1 d2=>?_;refine⟨_,_,_,_,rfl,yjq hX hB hfr,d1,noSet d2,z.1,hres,fun X' hX' d o hd ho=>?_⟩
 refine xa (Za.mp ho) fun ρd hb ho=>?_;refine xa (Za.mp ho) fun kk hkk ho=>?_;have hXE:=blk_xe hX hB hX';have tests:DTs X' ifs ρd kk:=by
  revert hk
  cases ifs with
  | nil=>
   intro hk;simp only [zup] at hk;cases hk;simp only [evc] at hkk;cases hkk;exact .inl ⟨rfl,rfl⟩
  | cons c1 rest=>
   cases rest with
   | nil=>
    intro hk;simp only [zup] at hk;refine xa (Zb.mp hk) fun c2 hc2 hk=>?_;subst hk;simp only [evc] at hkk;exact .inr ⟨c1,rfl,jT X' _ hXE _ _ _ _ hc2 hkk⟩
   | cons c2 rest=>
    intro hk;simp only [zup] at hk;cases hk
 refine⟨ρd,zzz hXE ht hb,zoc z.2 hb,?_⟩
 cases kk with
 | false=>
  rw [if_neg Zw] at ho;cases ho;exact tests
 | true=>
  rw [if_pos rfl] at ho;refine xa (Zb.mp ho) fun de hde ho=>?_;subst ho;refine xa (zni hde) fun w hw1 hw2=>?_;subst hw2;exact⟨tests,(jE X' _ hXE _ _ _ _ he1 hw1).df⟩
theorem zhk:∀ n (X:Cx) (c:TC),XE X c Γ->(∀ e e' ρ w,trE n c e=some e'->ev Γ e' ρ=some w->DE X e ρ w)/\(∀ es l ρ ds,trEs n c es=some l->evs Γ l ρ=some ds->DA X es ρ ds) /\
  (∀ o o' ρ i,trO n c o=some o'->evo Γ o' ρ=some i->DO X o ρ i)/\(∀ e e' ρ k,trT n c e=some e'->((ev Γ e' ρ).map W.d).bind zco=some k->DT X e ρ k) /\
  (∀ op es p e' ρ k,trT n c (.BoolOp op es p)=some e'->((ev Γ e' ρ).map W.d).bind zco=some k->DW X (.BoolOp op es p) ρ k):=by
 intro n;induction n with
 | zero=>exact fun X c hX=>⟨fun e e' ρ w h=>by (simp only [trE] at h;cases h),fun e e' ρ w h=>by (simp only [trEs] at h;cases h),fun e e' ρ w h=>by (simp only [trO] at h;cases h),fun e e' ρ w h=>by (simp only [trT] at h;cases h),fun op es p e' ρ w h=>by (simp only [trT] at h;cases h)⟩
 | succ n ih0=>
  intro X c hX;refine xx (ih0 X c hX) fun iE iEs iO iT iW=>?_;have iF:∀ {e e' ρ d},trE n c e=some e'->(ev Γ e' ρ).map W.d=some d->DF X e ρ d:=fun {e e' ρ d} h hv=>by
   refine xa (zni hv) fun w h1 h2=>?_;subst h2;exact (iE _ _ _ _ h h1).df
  have iB:∀ {e e' ρ k},trE n c e=some e'->((ev Γ e' ρ).map W.d).bind zco=some k->DF X e ρ (.bl k):=fun {e e' ρ k} h hv=>by
   refine xa (Za.mp hv) fun d h1 h2=>?_;rw [zts h2] at h1;exact iF h h1
  have iI:∀ {e e' ρ k},trE n c e=some e'->((ev Γ e' ρ).map W.d).bind dInt=some k->DF X e ρ (.int k):=fun {e e' ρ k} h hv=>by
   refine xa (Za.mp hv) fun d h1 h2=>?_;rw [zde h2] at h1;exact iF h h1
  have hWW:∀ op es p e' ρ k,trT (n+1) c (.BoolOp op es p)=some e'->((ev Γ e' ρ).map W.d).bind zco=some k->DW X (.BoolOp op es p) ρ k:=by
   intro op es p e' ρ k h hv;simp only [trT] at h;change trB _ p es op=some e' at h
   unfold trB at h;split at h
   ·unfold ygd at h;split at h
    ·exact DW.and1 (iT _ _ _ _ h hv)
    ·refine xa (Za.mp h) fun a' ha h=>?_;refine xa (Zb.mp h) fun b' hb h=>?_;subst h;simp only [ev] at hv;refine xa (Za.mp hv) fun d hd0 hv=>?_;refine xa (zni hd0) fun w hd1 z=>?_;subst z;refine xa (Za.mp hd1) fun k1 hk hd=>?_;cases k1 with
     | true=>
      rw [if_pos rfl] at hd;exact DW.andT (iT _ _ _ _ ha hk) (iW _ _ _ _ _ _ hb (by rw [hd];exact hv))
     | false=>
      rw [if_neg Zw] at hd;cases hd;cases hv;exact DW.andF (iT _ _ _ _ ha hk) zqp
    ·cases h
   ·unfold trOr at h;split at h
    ·exact DW.or1 (iT _ _ _ _ h hv)
    ·refine xa (Za.mp h) fun a' ha h=>?_;refine xa (Zb.mp h) fun b' hb h=>?_;subst h;simp only [ev] at hv;refine xa (Za.mp hv) fun d hd0 hv=>?_;refine xa (zni hd0) fun w hd1 z=>?_;subst z;refine xa (Za.mp hd1) fun k1 hk hd=>?_;cases k1 with
     | true=>
      rw [if_pos rfl] at hd;cases hd;cases hv;exact DW.orT (iT _ _ _ _ ha hk) zqp
     | false=>
      rw [if_neg Zw] at hd;exact DW.orF (iT _ _ _ _ ha hk) (iW _ _ _ _ _ _ hb (by rw [hd];exact hv))
    ·cases h
  refine⟨fun e e' ρ w h hv=>?_,fun es l ρ ds h hv=>?_,fun o o' ρ i h hv=>?_,fun e e' ρ k h hv=>?_,hWW⟩
  ·simp only [trE] at h;cases e with
   | Name id0 pos0=>
    change (slot c id0).map E.var=some e' at h
    refine xa (Zb.mp h) fun i h1 h2=>?_;subst h2;simp only [ev] at hv;refine xa (Zb.mp hv) fun d h3 h4=>?_;subst h4;refine xk (zax hX h1) fun a1 a2 a3 a4=>?_;exact (DF.var a1 (Loc.vis a2) a3 a4 (zdz h3)).de
   | Constant v0 k0 pos0=>
    change trK v0=some e' at h
    unfold trK at h;split at h
    ·cases h;simp only [ev] at hv;cases hv;exact DF.cint.de
    ·cases h;simp only [ev] at hv;cases hv;exact DF.cbl.de
    ·cases h;simp only [ev] at hv;cases hv;exact DF.cnon.de
    ·cases h
   | BinOp l0 op0 r0 pos0=>
    change ((trOp op0).bind fun o=>(trE n c l0).bind fun a'=>(trE n c r0).map fun b'=>E.bin o a' b')=some e' at h
    refine xa (Za.mp h) fun o ho h=>?_;refine xa (Za.mp h) fun a' ha h=>?_;refine xa (Zb.mp h) fun b' hb h=>?_;subst h;simp only [ev] at hv;refine xa (Za.mp hv) fun x hx hv=>?_;refine xa (Za.mp hv) fun y hy hv=>?_;exact op_ok ho (iF ha hx) (iF hb hy) hv
   | UnaryOp op0 a0 pos0=>
    change trU (trE n c) a0 op0=some e' at h
    unfold trU at h;split at h
    ·-- USub
     refine xa (Zb.mp h) fun a' ha h=>?_;subst h;simp only [ev] at hv;refine xa (Zb.mp hv) fun i hi hv=>?_;subst hv;exact DE.neg (iI ha hi)
    ·-- Not
     refine xa (Zb.mp h) fun a' ha h=>?_;subst h;simp only [ev] at hv;refine xa (Zb.mp hv) fun i hi hv=>?_;subst hv;exact DE.not (iB ha hi)
    ·cases h
   | BoolOp op0 es0 pos0=>
    change trB (trE n c) pos0 es0 op0=some e' at h
    unfold trB at h;split at h
    ·unfold ygd at h;split at h
     ·exact DE.one (iE _ _ _ _ h hv)
     ·-- And
      refine xa (Za.mp h) fun a' ha h=>?_;refine xa (Zb.mp h) fun b' hb h=>?_;subst h;simp only [ev] at hv;refine xa (Za.mp hv) fun k hk hv=>?_;cases k with
      | true=>
       rw [if_pos rfl] at hv;exact DE.andT (iB ha hk) (iE _ _ _ _ hb hv)
      | false=>
       rw [if_neg Zw] at hv;cases hv;exact DE.andF (iB ha hk)
     ·cases h
    ·unfold trOr at h;split at h
     ·exact DE.one (iE _ _ _ _ h hv)
     ·-- Or
      refine xa (Za.mp h) fun a' ha h=>?_;refine xa (Zb.mp h) fun b' hb h=>?_;subst h;simp only [ev] at hv;refine xa (Za.mp hv) fun k hk hv=>?_;cases k with
      | true=>
       rw [if_pos rfl] at hv;cases hv;exact DE.orT (iB ha hk)
      | false=>
       rw [if_neg Zw] at hv;exact DE.orF (iB ha hk) (iE _ _ _ _ hb hv)
     ·cases h
   | Compare a0 ops0 bs0 pos0=>
    change trCp (trE n c) a0 ops0 bs0=some e' at h
    unfold trCp at h;split at h
    ·-- Compare
     split at h
     case isFalse=>cases h
     rename_i hmk;refine xa (Za.mp h) fun o ho h=>?_;refine xa (Za.mp h) fun a' ha h=>?_;refine xa (Zb.mp h) fun b' hb h=>?_;subst h;simp only [ev] at hv;refine xa (Za.mp hv) fun x hx hv=>?_;refine xa (Za.mp hv) fun y hy hv=>?_;refine xa (Zb.mp hv) fun k hk hv=>?_;subst hv;exact DE.cmp (yfj hX.un ho hk) (iF ha hx) (iF hb hy) hmk
    ·cases h
   | Tuple es0 k0 pos0=>
    change (trEs n c es0).map E.tup=some e' at h
    refine xa (Zb.mp h) fun l hl h=>?_;subst h;simp only [ev] at hv;refine xa (Za.mp hv) fun ds hd hv=>?_;by_cases q:ds.length<=sizeLine
    ·rw [if_pos q] at hv;cases hv;exact DE.tup (iEs _ _ _ _ hl hd) q
    ·rw [if_neg q] at hv;cases hv
   | List es0 pos0=>
    change (trEs n c es0).map E.lst=some e' at h
    refine xa (Zb.mp h) fun l hl h=>?_;subst h;simp only [ev] at hv;refine xa (Za.mp hv) fun ds hd hv=>?_;by_cases q:ds.length<=sizeLine
    ·rw [if_pos q] at hv;cases hv;exact DE.lst (iEs _ _ _ _ hl hd) q
    ·rw [if_neg q] at hv;cases hv
   | ListComp elt0 gs0 scope0 pos0=>
    change trLC (trE n) (trT n) (trE n c) c elt0 scope0 gs0=some e' at h
    unfold trLC at h;split at h
    ·-- a comprehension
     refine vk (zju hX (fun h hv=>iF h hv) (fun X' c' h=>(ih0 X' c' h).1) (fun X' c' h=>(ih0 X' c' h).2.2.2.1) h hv) fun items res f fr e1 hC hI hS hz hr hb=>?_;subst e1;exact DE.comp hX.calm hC hI hS hz hr hb
    ·cases h
   | Subscript a0 b0 pos0=>
    change trSb (trE n c) (trO n c) a0 b0=some e' at h
    unfold trSb at h;split at h
    ·-- a slice
     refine xa (Za.mp h) fun a' ha h=>?_;refine xa (Za.mp h) fun l' hl h=>?_;refine xa (Zb.mp h) fun h' hh h=>?_;subst h;simp only [ev] at hv;refine xa (Za.mp hv) fun x hx hv=>?_;refine xa (Za.mp hv) fun i hi hv=>?_;refine xa (Za.mp hv) fun j hj hv=>?_;cases x <;> first | (cases hv;done) | skip
     cases hv;exact DE.slL (iF ha hx) (iO _ _ _ _ hl hi) (iO _ _ _ _ hh hj)
    ·-- a subscript
     split at h
     ·rename_i hs;refine xa (Za.mp h) fun a' ha h=>?_;refine xa (Zb.mp h) fun b' hb h=>?_;subst h;simp only [ev] at hv;refine xa (Za.mp hv) fun x hx hv=>?_;refine xa (Za.mp hv) fun y hy hv=>?_;refine xa (Zb.mp hv) fun d hd hv=>?_;subst hv;unfold ixD at hd;split at hd
      ·exact DE.ixT (iF ha hx) (iF hb hy) hs hd
      ·exact DE.ixL (iF ha hx) (iF hb hy) hs hd
      ·cases hd
     ·cases h
   | Call func0 args0 kws0 pos0=>
    cases func0 with
    | Name x p=>
     cases args0 <;> first | (cases h;done) | skip
     cases kws0 <;> first | (cases h;done) | skip
     rename_i e es;change zuq (trE n c) (trEs n c) c x e es=some e' at h
     unfold zuq at h;split at h
     ·rename_i f as hf;refine xa (Zb.mp h) fun l hl h=>?_;subst h;simp only [ev] at hv;refine xa (Za.mp hv) fun ds hd hv=>?_;exact fm_ok hX hf (zeb hl) (iEs _ _ _ _ hl hd) hv
     split at h
     ·rename_i f k hh;split at h
      ·rename_i hk;refine xa (Zb.mp h) fun l hl h=>?_;subst h;simp only [ev] at hv;refine xa (Za.mp hv) fun ds hd hv=>?_;refine xj (zxk hX hh) fun hf g1 g2=>?_;have hst:=zeb hl;rw [W7,Zm] at hst;exact DE.call (hX.calls _ _ _ hf) g1 g2 (iEs _ _ _ _ hl hd) ((yjb hl hd).trans hk) hv hst.1 hst.2
      ·cases h
     ·rename_i b hh;refine xa (Zb.mp h) fun l hl h=>?_;subst h;simp only [ev] at hv;refine xa (Za.mp hv) fun ds hd hv=>?_;refine xj (zxl hX hh) fun e1 g1 g2=>?_;have hst:=zeb hl;rw [W7,Zm] at hst;subst e1;exact DE.blt (bi_ok hX.calm hX.un hv) g1 (hX.blt _ (zys b).2) (ykc b) (zys b).1 g2 (iEs _ _ _ _ hl hd) hst.1 hst.2
     ·rename_i hh;refine xg (ztm hX hh) fun ex hs1=>?_;subst ex;split at h
      ·rename_i y p2;split at h
       ·rename_i hgy;refine xg (zfl hX hgy.1) fun g3 g4=>?_;split at h
        ·rename_i t ht;refine xa (Zb.mp h) fun e' he h=>?_;subst h;simp only [ev] at hv;refine xa (Za.mp hv) fun d hd hv=>?_;refine xa (Zb.mp hv) fun k hk hv=>?_;subst hv;have e1:=zum ht;subst e1;have e2:k=isTy t d:=by
          unfold ztk at hk;split at hk
          ·cases hk
          ·cases hk;rfl
         subst e2;exact DE.isi hk (iF he hd) hgy.2 hs1 (hX.blt _ (by decide +kernel)) rfl g3 (hX.blt _ (yfw t))
        ·cases h
       ·cases h
      ·cases h
     ·rename_i hh;refine xg (ztl hX hh) fun ex hs1=>?_;subst ex;split at h
      ·split at h
       ·rename_i hst;refine xa (Zb.mp h) fun e' he h=>?_;subst h;simp only [ev] at hv;refine xa (Za.mp hv) fun d hd hv=>?_;cases d <;> first | (cases hv;done) | skip
        ·cases hv;exact DE.ty zyn hs1 (hX.blt _ (by decide +kernel)) (by decide +kernel) (by decide) (by decide) (DA.cons (iF he hd) DA.nil hst) hst rfl
        ·cases hv;exact DE.ty ycy hs1 (hX.blt _ (by decide +kernel)) (by decide +kernel) (by decide) (by decide) (DA.cons (iF he hd) DA.nil hst) hst rfl
       ·cases h
      ·cases h
     ·cases h
    | Attribute o0 nm ap=>
     cases o0 <;> first | (cases h;done) | skip
     rename_i x p;cases args0 with
     | nil=>cases h
     | cons e r0=>
      cases r0 <;> first | (cases h;done) | skip
      cases kws0 <;> first | (cases h;done) | skip
      change trIx (trE n c) c nm x ap pos0 e=some e' at h
      unfold trIx at h;split at h
      ·rename_i q;refine xa (Za.mp h) fun i h1 h=>?_;refine xa (Zb.mp h) fun b' hb h=>?_;subst h;simp only [ev] at hv;refine xa (Za.mp hv) fun d hd hv=>?_;refine xa (Za.mp hv) fun y hy hv=>?_;refine xa (zni hd) fun w1 h3 h4=>?_;refine xa (Zb.mp h3) fun d1 h5 h6=>?_;subst h6;subst h4;refine xk (zax hX h1) fun a1 a2 a3 a4=>?_;refine xj q fun q1 q2 q3=>?_;clear q
       subst q1;cases d1 <;> first | (cases hv;done) | skip
       refine xa (Zb.mp hv) fun k hk e=>?_;subst e;exact DE.idx hX.un (DF.var a1 (Loc.vis a2) a3 a4 (zdz h5)) (iF hb hy) q2 q3 hk
      ·cases h
    | _=>cases h
   | _=>cases h
  ·cases es with
   | nil=>
    simp only [trEs] at h;cases h;simp only [evs] at hv;cases hv;exact DA.nil
   | cons e es=>
    simp only [trEs] at h;by_cases q:Bs e=true
    ·rw [if_pos q] at h;refine xa (Za.mp h) fun e' he h=>?_;refine xa (Zb.mp h) fun l' h3 z=>?_;subst z;simp only [evs] at hv;refine xa (Za.mp hv) fun d hd hv=>?_;refine xa (Zb.mp hv) fun ds' hv3 z=>?_;subst z;exact DA.cons (iF he hd) (iEs _ _ _ _ h3 hv3) q
    ·rw [if_neg q] at h;cases h
  ·cases o with
   | none=>
    simp only [trO] at h;cases h;simp only [evo] at hv;cases hv;exact DO.none
   | some e=>
    simp only [trO] at h;refine xa (Zb.mp h) fun e' he h=>?_;subst h;simp only [evo] at hv;refine xa (Zb.mp hv) fun i hi hv=>?_;subst hv;exact DO.some (iI he hi)
  ·have h0:=h;simp only [trT] at h;unfold trT1 at h;split at h
   ·unfold trN at h;split at h
    ·refine xa (Zb.mp h) fun a' ha h=>?_;subst h;simp only [ev] at hv;refine xa (Za.mp hv) fun d hd0 hv=>?_;refine xa (zni hd0) fun w hd1 z=>?_;subst z;refine xa (Zb.mp hd1) fun k1 hk hd=>?_;subst hd;cases hv;exact DT.not (iT _ _ _ _ ha hk)
    ·cases h
   ·exact (hWW _ _ _ _ _ _ h0 hv).dt
   ·unfold trCp at h;split at h
    ·split at h
     case isFalse=>cases h
     rename_i hmk;refine xa (Za.mp h) fun o ho h=>?_;refine xa (Za.mp h) fun a' ha h=>?_;refine xa (Zb.mp h) fun b' hb h=>?_;subst h;simp only [ev] at hv;refine xa (Za.mp hv) fun d hd0 hv=>?_;refine xa (zni hd0) fun w hd1 z=>?_;subst z;refine xa (Za.mp hd1) fun x hx hd2=>?_;refine xa (Za.mp hd2) fun y hy hd3=>?_;refine xa (Zb.mp hd3) fun k1 hk hd=>?_;subst hd;cases hv;exact DT.cmp (yfj hX.un ho hk) (iF ha hx) (iF hb hy) hmk
    ·cases h
   ·split at h
    ·rename_i hp;exact DT.val (iB h hv) (zmy hp)
    ·cases h
theorem zjz (hX:XE X c Γ) (n:Nat):(∀ e e' ρ w,trE n c e=some e'->ev Γ e' ρ=some w->DE X e ρ w)/\(∀ es l ρ ds,trEs n c es=some l->evs Γ l ρ=some ds->DA X es ρ ds) /\
  (∀ o o' ρ i,trO n c o=some o'->evo Γ o' ρ=some i->DO X o ρ i):=⟨(zhk n X c hX).1,(zhk n X c hX).2.1,(zhk n X c hX).2.2.1⟩
theorem zuo (hX:XE X c Γ) (n:Nat):(∀ e e' ρ k,trT n c e=some e'->((ev Γ e' ρ).map W.d).bind zco=some k->DT X e ρ k) /\
  (∀ op es p e' ρ k,trT n c (.BoolOp op es p)=some e'->((ev Γ e' ρ).map W.d).bind zco=some k->DW X (.BoolOp op es p) ρ k):=⟨(zhk n X c hX).2.2.2.1,(zhk n X c hX).2.2.2.2⟩
end
end DL
namespace DL
open PySem L2 PyProof.Rows
noncomputable def zns:Expr->Bool
 | .ListComp _ _ _ _=>true
 | .SetComp _ _ _ _=>true
 | .DictComp _ _ _ _ _=>true
 | _=>false
theorem zwb {e t:Expr} {line:Nat} {env:Env} (h:zns e=false):swapsWith e (some t) line env=pure false:=by
 cases e <;> first | rfl | (cases h;done)
theorem ybe {e:Expr} {ts:List Expr} {k:Nat} {p:Pos} {env:Env} (h:isTup e=false):swappedStores [.Tuple ts k p] e env=pure none:=by
 cases e <;> first | (cases h;done) | rfl
theorem zwc {e a k:Expr} {p:Pos} {env:Env}:swappedStores [.Subscript a k p] e env=pure none:=by
 cases e <;> rfl
theorem yib {e t:Expr} {line:Nat} {env:Env} (h:zns e=false):swapsWithSole [t] e line env=pure false:=by
 unfold swapsWithSole;exact zwb h
noncomputable def swC (sc:Scope) (x:Str) (px pos:Pos) (scope:Scope):Bool:=decide (sc.names.lookup x=some NameKind.local) && (px.line == pos.line) && !(scope.names.any fun (n,k)=>n == x && (k == NameKind.local || k == NameKind.cell))
theorem ydx {x:Str} {px pos:Pos} {elt:Expr} {gs:List Comprehension} {scope:Scope} {line:Nat} {env:Env} (hk:env.scope.kind=.function):swapsWith (.ListComp elt gs scope pos) (some (.Name x px)) line env=pure (swC env.scope x px pos scope):=by
 have hbk:env.blockKind=.function:=by unfold Env.blockKind;rw [hk];rfl
 have e1:(env.kindOf x == some NameKind.local)=decide (env.scope.names.lookup x=some NameKind.local):=by
  unfold Env.kindOf;by_cases q:env.scope.names.lookup x=some NameKind.local
  ·rw [q];rfl
  ·rw [decide_eq_false q];cases z:env.scope.names.lookup x with
   | none=>rfl
   | some k=>cases k <;> first | rfl | (exact absurd z q)
 show pure _=pure _;rw [hbk];unfold swC;rw [<- e1];rfl
theorem ygh {x y:Str} {a b:Expr} {px py pt p2:Pos} {kt k2:Nat} {env:Env} (hk:env.scope.kind=.function) (hx:env.scope.names.lookup x=some .local) (hy:env.scope.names.lookup y=some .local) (hl:(px.line == py.line)=true) (hxy:x≠y)
  (ha:Bs a=true) (hb:Bs b=true) (h1:([a,b].all (foldedForSure 8))=false) (h2:([a,b].all (constantsAlone 8))=false) :
  swappedStores [.Tuple [.Name x px,.Name y py] kt pt] (.Tuple [a,b] k2 p2) env=pure (some [x,y]):=by
 have hbk:env.blockKind=.function:=by unfold Env.blockKind;rw [hk];rfl
 have kx:(env.kindOf x == some NameKind.local)=true:=by unfold Env.kindOf;rw [hx];rfl
 have ky:(env.kindOf y == some NameKind.local)=true:=by unfold Env.kindOf;rw [hy];rfl
 have e1:(y == x)=false:=by
  cases q:(y == x) with
  | false=>rfl
  | true=>exact absurd (eq_of_beq q).symm hxy
 have k1:env.kindOf x=some NameKind.local:=hx;have k2:env.kindOf y=some NameKind.local:=hy;have l1:py.line=px.line:=(eq_of_beq hl).symm;have p1:(Expr.Name x px).pos=px:=rfl;unfold swappedStores;simp only [Zj,Yb,hbk,h1,h2];simp [List.eraseDups,List.eraseDupsBy,List.eraseDupsBy.loop,e1,hxy,Wh hxy]
 rw [if_neg (by
  rintro (h | h)
  ·revert ha h;cases a <;> simp [Bs]
  ·revert hb h;cases b <;> simp [Bs])]
 simp [Kp,k1,k2,l1,p1,List.eraseDups,List.eraseDupsBy,List.eraseDupsBy.loop,e1,hxy,Wh hxy]
end DL
namespace DL
open PySem L2 PyProof.Rows
noncomputable def slots (c:TC):List Expr->Option (List Nat)
 | []=>some []
 | .Name x _::es=>(slot c x).bind fun i=>(slots c es).map fun l=>i::l
 | _=>none
noncomputable def trTg (c:TC):Expr->Option Tg
 | .Name x _=>(slot c x).map Tg.name
 | .Tuple es _ _=>(slots c es).map Tg.tup
 | _=>none
noncomputable def zut (n:Nat) (c:TC) (x:Str):Expr->Option S
 | .ListComp elt gs scope pos=>if c.sc.kind=.function then (slot c x).bind fun i=>(trE n c (.ListComp elt gs scope pos)).map (S.asg i) else none
 | e=>if zns e=false then (slot c x).bind fun i=>(trE n c e).map (S.asg i) else none
noncomputable def zus (n:Nat) (c:TC):List Expr->Expr->Option S
 | [.Name x px,.Name y py],.Tuple [a,b] _ _=>
  if (px.line == py.line)=true/\x≠y/\Bs a=true/\Bs b=true/\([a,b].all (foldedForSure 8))=false/\([a,b].all (constantsAlone 8))=false/\c.sc.names.lookup x=some .local/\c.sc.names.lookup y=some .local then
   (slot c x).bind fun i=>(slot c y).bind fun j=>(trE n c a).bind fun a'=>(trE n c b).map fun b'=>S.par i j a' b'
  else none
 | ts,e=>if zns e=false/\isTup e=false then (slots c ts).bind fun is=>(trE n c e).map (S.unp is) else none
noncomputable def ygc (n:Nat) (c:TC) (e:Expr):Expr->Option S
 | .Name x _=>zut n c x e
 | .Subscript (.Name x _) k _=>if zns e=false/\zdk k=true then (slot c x).bind fun i=>(trE n c k).bind fun k'=>(trE n c e).map (S.seti i k') else none
 | .Tuple ts _ _=>zus n c ts e
 | _=>some .never
noncomputable def yga (n:Nat) (c:TC):Expr->Option S
 | .Name x _=>(slot c x).map S.retV
 | e=>(trE n c e).map S.ret
noncomputable def v1 {α:Type}:List α->Option α
 | [a]=>some a
 | _=>none
noncomputable def vN:Expr->Option Str
 | .Name x _=>some x
 | _=>none
theorem vN_s {s:Expr} {x:Str} (h:vN s=some x):∃ p,s = .Name x p:=by
 unfold vN at h;split at h
 ·cases h;exact⟨_,rfl⟩
 ·cases h
noncomputable def vCl:Expr->Option (Expr×List Expr×Pos)
 | .Call f es [] p=>some (f,es,p)
 | _=>none
noncomputable def vAt:Expr->Option (Expr×Str×Pos)
 | .Attribute a m p=>some (a,m,p)
 | _=>none
noncomputable def xV (e:Expr):Option (Str×Str×Pos×List Expr×Pos):=(vCl e).bind fun p=>(vAt p.1).bind fun q=>(vN q.1).map fun x=>(x,q.2.1,q.2.2,p.2)
theorem vCl_s {s:Expr} {e:Expr×List Expr×Pos} (h:vCl s=some e):s = .Call e.1 e.2.1 [] e.2.2:=by
 unfold vCl at h;split at h
 ·cases h;rfl
 ·cases h
theorem vAt_s {s:Expr} {e:Expr×Str×Pos} (h:vAt s=some e):s = .Attribute e.1 e.2.1 e.2.2:=by
 unfold vAt at h;split at h
 ·cases h;rfl
 ·cases h
theorem xV_s {e:Expr} {x m:Str} {ap cp:Pos} {es:List Expr} (h:xV e=some (x,m,ap,es,cp)):∃ p,e = .Call (.Attribute (.Name x p) m ap) es [] cp:=by
 unfold xV at h;obtain⟨⟨f,l,z⟩,h1,h⟩:=Za.mp h
 obtain⟨⟨a,m0,ap0⟩,h2,h⟩:=Za.mp h
 refine xa (Zb.mp h) fun y h3 h=>?_;cases h;refine xb (vN_s h3) fun p h3=>?_;have h1:=vCl_s h1;have h2:=vAt_s h2;dsimp only at h1 h2 h3;exact⟨p,by rw [h1,h2,h3]⟩
noncomputable def trX2 (n:Nat) (c:TC) (x m:Str) (ap cp:Pos):List Expr->Option S
 | [e]=>if m=("append" : Str)/\(ap.endLine == cp.line)=true/\Bs e=true then (slot c x).bind fun i=>(trE n c e).map (S.app i) else some .never
 | []=>if (ap.endLine == cp.line)=true then (if m=("pop" : Str) then (slot c x).map S.pop else if m=("clear" : Str) then (slot c x).map S.clr else some .never) else some .never
 | _=>some .never
noncomputable def trX (n:Nat) (c:TC) (e:Expr):Option S:=match xV e with
 | some p=>trX2 n c p.1 p.2.1 p.2.2.1 p.2.2.2.2 p.2.2.2.1
 | none=>some .never
noncomputable def trS1 (n:Nat) (rSs:List Stmt->Option Ss) (c:TC):Stmt->Option S
 | .Assign [t] e _=>ygc n c e t
 | .Return (some e) _=>yga n c e
 | .If t a b _=>(trT n c t).bind fun t'=>(rSs a).bind fun a'=>(rSs b).map fun b'=>S.iff t' a' b'
 | .While t b [] _=>(trT n c t).bind fun t'=>(rSs b).map fun b'=>S.whl t' b'
 | .For tg it b [] _=>(trTg c tg).bind fun g=>(trI1 (trE n c) c tg it).bind fun i=>(rSs b).map fun b'=>S.frr g i b'
 | .Expr e _=>trX n c e
 | _=>some .never
mutual
noncomputable def trS:Nat->TC->Stmt->Option S
 | 0,_,_=>none
 | n+1,c,s=>trS1 n (trSs n c) c s
noncomputable def trSs:Nat->TC->List Stmt->Option Ss
 | 0,_,_=>none
 | n+1,c,[]=>some .nil
 | n+1,c,s::l=>(trS n c s).bind fun s'=>(trSs n c l).map fun l'=>.cons s' l'
end
section
variable {X:Cx} {c:TC} {Γ:Nat->List D->Option W}
theorem ycb (hX:XC X c Γ) {n:Nat} {e:Expr} {e':E} {ρ:Rho} {d:D} (h:trE n c e=some e') (hv:(ev Γ e' ρ).map W.d=some d):DF X e ρ d:=by
 refine xa (zni hv) fun w h1 h2=>?_;subst h2;exact ((zjz hX.toXE n).1 _ _ _ _ h h1).df
theorem yca (hX:XC X c Γ) {n:Nat} {e:Expr} {e':E} {ρ:Rho} {k:Int} (h:trE n c e=some e') (hv:((ev Γ e' ρ).map W.d).bind dInt=some k):DF X e ρ (.int k):=by
 refine xa (Za.mp hv) fun d h1 h2=>?_;rw [zde h2] at h1;exact ycb hX h h1
theorem zed {ρ ρ':RhoS} {i:Nat} {b:B} (h:setR ρ i b=some ρ'):i<ρ.length/\ρ'=ρ.set i (some b):=by
 unfold setR at h;by_cases q:i<ρ.length
 ·rw [if_pos q] at h;cases h;exact⟨q,rfl⟩
 ·rw [if_neg q] at h;cases h
theorem zqj (hX:XC X c Γ):∀ {ts:List Expr} {is:List Nat} {ds:List D} {ρ ρ':RhoS},slots c ts=some is->zcv is ds ρ=some ρ'->DGs X ts ds ρ ρ'/\ts.all Bs=true/\ds.length=ts.length
 | [],is,ds,ρ,ρ',h,hb=>by
  simp only [slots] at h;cases h;cases ds with
  | nil=>cases hb;exact⟨DGs.nil,rfl,rfl⟩
  | cons d ds=>cases hb
 | t::ts,is,ds,ρ,ρ',h,hb=>by
  unfold slots at h;split at h
  ·rename_i z;cases z
  ·rename_i x p es z;cases z;refine xa (Za.mp h) fun i hi h=>?_;refine xa (Zb.mp h) fun l hl h=>?_;subst h;cases ds with
   | nil=>cases hb
   | cons d ds=>
    simp only [zcv] at hb;refine xa (Za.mp hb) fun ρ1 h1 hb=>?_;refine xg (zed h1) fun q e=>?_;subst e;refine xj (zqj hX hl hb) fun g g2 g3=>?_;refine xk (zax hX.toXE hi) fun a1 a2 a3 a4=>?_;refine⟨DGs.cons (DG.name (by rw [hX.hN];exact hX.nd) a1 a2 (.inl (hX.fn _)) q) g rfl,by rw [W7,g2];rfl,by rw [Zj,Zj,g3]⟩
  ·cases h
theorem zun (hX:XC X c Γ) {tg:Expr} {t:Tg} (h:trTg c tg=some t) {d:D} {ρ ρ':RhoS} (hb:B5 t d ρ=some ρ'):DG X tg d ρ ρ':=by
 unfold trTg at h;split at h
 ·refine xa (Zb.mp h) fun i hi h=>?_;subst h;simp only [B5] at hb;refine xg (zed hb) fun q e=>?_;subst e;refine xk (zax hX.toXE hi) fun a1 a2 a3 a4=>?_;exact DG.name (by rw [hX.hN];exact hX.nd) a1 a2 (.inl (hX.fn _)) q
 ·refine xa (Zb.mp h) fun l hl h=>?_;subst h;cases d <;> first | (simp only [B5] at hb;cases hb;done) | skip
  ·simp only [B5] at hb;refine xj (zqj hX hl hb) fun g g2 g3=>?_;exact DG.tup hX.calm g g2 g3
 ·cases h
theorem DI.listV {tg:Expr} {i:Nat} {x:Str} {p:Pos} {l:List D} {ρ:RhoS} (hN:X.N[i]? = some x) (hv:Vis X.env.scope x) (hd:(x == ("__debug__" : Str))=false) (hcd:(x == ("__classdict__" : Str))=false) (hr:ρ[i]? = some (some (.sh (.lst l)))):DI X tg (.Name x p) ρ l ρ:=fun H0 Fc=>PI.mono (zpa (zfr hN hv hd hcd)) fun σ H R hz=>xa hz fun F S k=>by
 refine xa (S.env i _ hr) fun v e0 q3=>?_;refine xc q3.lst fun a xs e1 sq r=>?_;refine⟨v,e0,a,e1,⟨xs,S.sub.seq sq⟩,k _ H F (Same.refl _) S fun i H' sH=>⟨fun d hd=>?_,fun hle=>⟨xs,sH.seq sq,by rw [r.length];exact hle⟩⟩⟩
 refine xa (r.get hd) fun y h1 h2=>?_;refine⟨⟨xs,y,sH.seq sq,h1⟩,fun x H'' hz=>xg hz fun ey yy=>?_⟩
 have:=yy xs (sH.seq sq)
 rw [h1] at this;cases this;exact .inl ⟨ey,h2⟩
theorem DI.tupV {tg:Expr} {i:Nat} {x:Str} {p:Pos} {l:List D} {ρ:RhoS} (hN:X.N[i]? = some x) (hv:Vis X.env.scope x) (hd:(x == ("__debug__" : Str))=false) (hcd:(x == ("__classdict__" : Str))=false) (hr:ρ[i]? = some (some (.sh (.tup l)))):DI X tg (.Name x p) ρ l ρ:=fun H0 Fc=>PI.mono (zvs (zfr hN hv hd hcd)) fun σ H R hz=>xa hz fun F S k=>by
 refine xa (S.env i _ hr) fun v e0 q3=>?_;refine xc q3.tup fun a xs e1 sq r=>?_;refine⟨v,e0,a,e1,⟨xs,Same.tup S.sub sq⟩,k _ H F (Same.refl _) S fun i H' sH=>⟨fun d hd=>?_,fun hle=>⟨xs,Same.tup sH sq,by rw [r.length];exact hle⟩⟩⟩
 refine xa (r.get hd) fun y h1 h2=>?_;refine⟨⟨xs,y,Same.tup sH sq,h1⟩,fun x H'' hz=>xg hz fun ey yy=>?_⟩
 have:=yy xs (Same.tup sH sq)
 rw [h1] at this;cases this;exact .inl ⟨ey,h2⟩
theorem zvh (hX:XC X c Γ) {n:Nat} {tg e:Expr} {e':E} {ρ ρ':RhoS} {l:List D} (h:trE n c e=some e') (hv:evI Γ (.seq e') ρ=some (l,ρ')):DI X tg e ρ l ρ':=by
 simp only [evI] at hv;refine xa (Za.mp hv) fun w hw hv=>?_;split at hv
 ·rename_i l' hl;cases hv;exact DI.list ((zjz hX.toXE n).1 _ _ _ _ h hw) hl
 ·rename_i l' hl;cases hv;exact DI.tup ((zjz hX.toXE n).1 _ _ _ _ h hw) hl
 ·cases hv
theorem trI_ok (hX:XC X c Γ) {n:Nat} {tg e:Expr} {i:It'} {ρ ρ':RhoS} {l:List D} (h:trI1 (trE n c) c tg e=some i) (hv:evI Γ i ρ=some (l,ρ')):DI X tg e ρ l ρ'/\yby e=false:=by
 unfold trI1 at h;split at h
 ·refine⟨?_,rfl⟩
  split at h
  ·rename_i q;refine xa (Zb.mp h) fun a' ha h=>?_;subst h;simp only [evI] at hv;refine xa (Za.mp hv) fun m hm hv=>?_;split at hv
   ·rename_i z;cases hv;refine xg (zdc hX.toXE q.1) fun g1 g2=>?_;subst g2;exact DI.range1 g1 (hX.blt _ (by decide +kernel)) (DA.cons (yca hX ha hm) DA.nil q.2) q.2 z.1 z.2
   ·cases hv
  ·refine xa (Zb.mp h) fun e' he h=>?_;subst h;exact zvh hX he hv
 ·refine⟨?_,rfl⟩
  split at h
  ·rename_i q;refine xa (Za.mp h) fun a' ha h=>?_;refine xa (Zb.mp h) fun b' hb h=>?_;subst h;simp only [evI] at hv;refine xa (Za.mp hv) fun m hm hv=>?_;refine xa (Za.mp hv) fun m2 hm2 hv=>?_;split at hv
   ·rename_i z;cases hv;refine xg (zdc hX.toXE q.1) fun g1 g2=>?_;subst g2;exact DI.range2 g1 (hX.blt _ (by decide +kernel)) (DA.cons (yca hX ha hm) (DA.cons (yca hX hb hm2) DA.nil q.2.2) q.2.1) q.2.1 q.2.2 z
   ·cases hv
  ·refine xa (Zb.mp h) fun e' he h=>?_;subst h;exact zvh hX he hv
 ·refine xa (Zb.mp h) fun i hi h=>?_;subst h;simp only [evI] at hv;refine xk (zax hX.toXE hi) fun a1 a2 a3 a4=>?_;refine⟨?_,rfl⟩
  unfold seqB at hv;split at hv
  ·rename_i hr;cases hv;exact DI.listV a1 (Loc.vis a2) a3 a4 hr
  ·rename_i hr;cases hv;exact DI.tupV a1 (Loc.vis a2) a3 a4 hr
  ·rename_i hr;cases hv;exact DI.list (w:=.val (.lst l)) (DF.de (DF.var a1 (Loc.vis a2) a3 a4 (by unfold view;rw [Zk,hr];rfl))) rfl
  ·cases hv
 ·split at h
  ·rename_i q;refine xa (Zb.mp h) fun e' he h=>?_;subst h;exact⟨zvh hX he hv,q⟩
  ·cases h
theorem zbr {s:Stmt} {s':S} {ρ:RhoS} {o:Out} (h:some S.never=some s') (hv:ex Γ s' ρ=some o):DS X s ρ o:=by
 cases h;simp only [ex] at hv;cases hv
theorem ykn (hX:XC X c Γ) {n:Nat} {x:Str} {px spos:Pos} {e:Expr} {s':S} {ρ:RhoS} {o:Out} (h:zut n c x e=some s') (hv:ex Γ s' ρ=some o):DS X (.Assign [.Name x px] e spos) ρ o:=by
 unfold zut at h;split at h
 ·rename_i elt gs scope pos;split at h
  case isFalse=>cases h
  rename_i hk0;refine xa (Za.mp h) fun i hi h=>?_;refine xa (Zb.mp h) fun e' he h=>?_;subst h;simp only [ex] at hv;refine xa (Za.mp hv) fun w hw hv=>?_;refine xa (Zb.mp hv) fun ρ1 h1 hv=>?_;subst hv;refine xg (zed h1) fun q e1=>?_;subst e1;refine xk (zax hX.toXE hi) fun a1 a2 a3 a4=>?_;have hl:i<ρ.length:=by
   have:(after w ρ).length=ρ.length:=by unfold after;split;rfl;unfold frz;rw [Zd]
   rw [this] at q;exact q
  cases hsw:swC X.env.scope x px pos scope with
  | false=>exact DS.asg (by rw [hX.hN];exact hX.nd) a1 a2 (.inl (hX.fn _)) (by rw [ydx hX.kind,hsw]) hl ((zjz hX.toXE n).1 _ _ _ _ he hw)
  | true=>
   cases n with
   | zero=>simp only [trE] at he;cases he
   | succ n=>
    simp only [trE] at he;change trLC _ _ _ _ _ _ gs=_ at he
    unfold trLC at he;split at he
    ·refine vk (zju hX.toXE (fun h hv=>ycb hX h hv) (fun X' c' h=>(zhk n X' c' h).1) (fun X' c' h=>(zhk n X' c' h).2.2.2.1) he hw) fun items res f fr e1 hC hI hS hz hr hb=>?_;subst e1;exact DS.asgComp (by rw [hX.hN];exact hX.nd) a1 a2 (.inl (hX.fn _)) hl (by rw [ydx hX.kind,hsw]) hX.calm hC hI hS hz hr hb
    ·cases he
 ·split at h
  ·rename_i hc;refine xa (Za.mp h) fun i hi h=>?_;refine xa (Zb.mp h) fun e' he h=>?_;subst h;simp only [ex] at hv;refine xa (Za.mp hv) fun w hw hv=>?_;refine xa (Zb.mp hv) fun ρ1 h1 hv=>?_;subst hv;refine xg (zed h1) fun q e1=>?_;subst e1;refine xk (zax hX.toXE hi) fun a1 a2 a3 a4=>?_;have hl:i<ρ.length:=by
    have:(after w ρ).length=ρ.length:=by unfold after;split;rfl;unfold frz;rw [Zd]
    rw [this] at q;exact q
   exact DS.asg (by rw [hX.hN];exact hX.nd) a1 a2 (.inl (hX.fn _)) (zwb hc) hl ((zjz hX.toXE n).1 _ _ _ _ he hw)
  ·cases h
theorem ykm (hX:XC X c Γ) {n:Nat} {ts:List Expr} {k:Nat} {tp spos:Pos} {e:Expr} {s':S} {ρ:RhoS} {o:Out} (h:zus n c ts e=some s') (hv:ex Γ s' ρ=some o):DS X (.Assign [.Tuple ts k tp] e spos) ρ o:=by
 unfold zus at h;split at h
 ·split at h
  ·rename_i q;refine vp q fun q1 q2 q3 q4 q5 q6 q7 q8=>?_;clear q
   refine xa (Za.mp h) fun i hi h=>?_;refine xa (Za.mp h) fun j hj h=>?_;refine xa (Za.mp h) fun a' ha h=>?_;refine xa (Zb.mp h) fun b' hb h=>?_;subst h;simp only [ex] at hv;refine xa (Za.mp hv) fun x hx hv=>?_;refine xa (Za.mp hv) fun y hy hv=>?_;split at hv
   ·rename_i z;cases hv;refine xk (zax hX.toXE hi) fun a1 a2 a3 a4=>?_;refine xk (zax hX.toXE hj) fun b1 b2 b3 b4=>?_;have sx:=q7;have sy:=q8;rw [<- hX.hsc] at sx sy;exact DS.par hX.calm (by rw [hX.hN];exact hX.nd) a1 b1 z.2.2.1 sx sy (DA.cons (ycb hX ha hx) (DA.cons (ycb hX hb hy) DA.nil q4) q3) z.2.2.2.1 z.2.2.2.2 z.1 z.2.1 (ygh hX.kind sx sy q1 q2 q3 q4 q5 q6)
   ·cases hv
  ·cases h
 ·split at h
  ·rename_i q;refine xa (Za.mp h) fun is hi h=>?_;refine xa (Zb.mp h) fun e' he h=>?_;subst h;simp only [ex] at hv;refine xa (Za.mp hv) fun w hw hv=>?_;refine xa (Zb.mp hv) fun ρ1 h1 hv=>?_;subst hv;exact DS.asgT ((zjz hX.toXE n).1 _ _ _ _ he hw) (zun hX (by show (slots c _).map Tg.tup=_;rw [hi];rfl) h1) (by unfold swapsWithSole;exact zwb q.1) (ybe q.2) rfl
  ·cases h
theorem asg_ok (hX:XC X c Γ) {n:Nat} {t:Expr} {spos:Pos} {e:Expr} {s':S} {ρ:RhoS} {o:Out} (h:ygc n c e t=some s') (hv:ex Γ s' ρ=some o):DS X (.Assign [t] e spos) ρ o:=by
 unfold ygc at h;split at h
 ·exact ykn hX h hv
 ·split at h
  ·rename_i hc;refine xa (Za.mp h) fun i hi h=>?_;refine xa (Za.mp h) fun k' hk h=>?_;refine xa (Zb.mp h) fun e' he h=>?_;subst h;simp only [ex] at hv;refine xa (Za.mp hv) fun w hw hv=>?_;refine xa (Za.mp hv) fun j hj hv=>?_;refine xk (zax hX.toXE hi) fun a1 a2 a3 a4=>?_;split at hv
   ·rename_i l d hr _;split at hv
    ·rename_i hf;refine xa (Zb.mp hv) fun m hm hv=>?_;subst hv;exact DS.seti a1 (Loc.vis a2) a3 a4 hr ((zjz hX.toXE n).1 _ _ _ _ he hw) (yca hX hk hj) hf hm hc.2 (yib hc.1) zwc
    ·cases hv
   ·cases hv
  ·cases h
 ·exact ykm hX h hv
 ·exact zbr h hv
theorem ret_ok (hX:XC X c Γ) {n:Nat} {spos:Pos} {e:Expr} {s':S} {ρ:RhoS} {o:Out} (h:yga n c e=some s') (hv:ex Γ s' ρ=some o):DS X (.Return (some e) spos) ρ o:=by
 unfold yga at h;split at h
 ·refine xa (Zb.mp h) fun i hi h=>?_;subst h;simp only [ex] at hv;refine xk (zax hX.toXE hi) fun a1 a2 a3 a4=>?_;split at hv
  ·rename_i l e;cases hv;exact DS.retOwn a1 (Loc.vis a2) a3 a4 e
  ·rename_i d e;cases hv;refine DS.ret (DF.var a1 (Loc.vis a2) a3 a4 ?_).de;unfold view;rw [Zk,e];rfl
  ·cases hv
 ·refine xa (Zb.mp h) fun e' he h=>?_;subst h;simp only [ex] at hv;refine xa (Zb.mp hv) fun w hw hv=>?_;subst hv;exact DS.ret ((zjz hX.toXE n).1 _ _ _ _ he hw)
theorem x_ok (hX:XC X c Γ) {n:Nat} {spos:Pos} {e:Expr} {s':S} {ρ:RhoS} {o:Out} (h:trX n c e=some s') (hv:ex Γ s' ρ=some o):DS X (.Expr e spos) ρ o:=by
 unfold trX at h;split at h
 case h_2=>exact zbr h hv
 rename_i p hp;obtain⟨x,m,ap,es,cp⟩:=p
 refine xb (xV_s hp) fun xp qz1=>?_;subst qz1
 dsimp only at h;unfold trX2 at h;split at h
 ·split at h
  ·rename_i hc;refine xa (Za.mp h) fun i hi h=>?_;refine xa (Zb.mp h) fun e' he h=>?_;subst h;simp only [ex] at hv;refine xa (Za.mp hv) fun w hw hv=>?_;refine xk (zax hX.toXE hi) fun a1 a2 a3 a4=>?_;split at hv
   ·rename_i l d hr;split at hv
    ·rename_i hf;cases hv;refine xj hc fun c1 c2 c3=>?_;clear hc
     subst c1;exact DS.app a1 (Loc.vis a2) a3 a4 hr ((zjz hX.toXE n).1 _ _ _ _ he hw) c3 hf.1 hf.2 c2
    ·cases hv
   ·cases hv
  ·cases h;simp only [ex] at hv;cases hv
 ·split at h
  ·rename_i hl;split at h
   ·rename_i hm;refine xa (Zb.mp h) fun i hi h=>?_;subst h;subst hm;refine xk (zax hX.toXE hi) fun a1 a2 a3 a4=>?_;simp only [ex] at hv;split at hv
    ·rename_i l hr;split at hv
     ·cases hv
     ·rename_i hn;cases hv;exact DS.pop a1 (Loc.vis a2) a3 a4 hr hn hl
    ·cases hv
   ·split at h
    ·rename_i hm;refine xa (Zb.mp h) fun i hi h=>?_;subst h;subst hm;refine xk (zax hX.toXE hi) fun a1 a2 a3 a4=>?_;simp only [ex] at hv;split at hv
     ·rename_i l hr;cases hv;exact DS.clr a1 (Loc.vis a2) a3 a4 hr hl
     ·cases hv
    ·cases h;simp only [ex] at hv;cases hv
  ·cases h;simp only [ex] at hv;cases hv
 ·exact zbr h hv
theorem trS_ok (hX:XC X c Γ):∀ n,(∀ s s' ρ o,trS n c s=some s'->ex Γ s' ρ=some o->DS X s ρ o)/\(∀ l l' ρ o,trSs n c l=some l'->exs Γ l' ρ=some o->DSs X l ρ o):=by
 intro n;induction n with
 | zero=>exact⟨fun e e' ρ w h=>by (simp only [trS] at h;cases h),fun e e' ρ w h=>by (simp only [trSs] at h;cases h)⟩
 | succ n ih=>
  refine xg ih fun iS iSs=>?_;clear ih
  refine⟨fun s s' ρ o h hv=>?_,fun l l' ρ o h hv=>?_⟩
  ·simp only [trS] at h;cases s with
   | Assign ts0 e0 p0=>
    cases ts0 with
    | nil=>exact zbr h hv
    | cons t0 r0=>
     cases r0 with
     | nil=>exact asg_ok hX h hv
     | cons _ _=>exact zbr h hv
   | Return v0 p0=>
    cases v0 with
    | none=>exact zbr h hv
    | some e0=>exact ret_ok hX h hv
   | If t0 a0 b0 p0=>
    change ((trT n c t0).bind fun t'=>(trSs n c a0).bind fun a'=>(trSs n c b0).map fun b'=>S.iff t' a' b')=some s' at h
    refine xa (Za.mp h) fun t' ht h=>?_;refine xa (Za.mp h) fun a' ha h=>?_;refine xa (Zb.mp h) fun b' hb h=>?_;subst h;simp only [ex] at hv;refine xa (Za.mp hv) fun k hk hv=>?_;cases k with
    | true=>
     rw [if_pos rfl] at hv;exact DS.ifT ((zuo hX.toXE n).1 _ _ _ _ ht hk) (iSs _ _ _ _ ha hv)
    | false=>
     rw [if_neg Zw] at hv;exact DS.ifF ((zuo hX.toXE n).1 _ _ _ _ ht hk) (iSs _ _ _ _ hb hv)
   | While t0 b0 els0 p0=>
    cases els0 with
    | cons _ _=>exact zbr h hv
    | nil=>
     change ((trT n c t0).bind fun t'=>(trSs n c b0).map fun b'=>S.whl t' b')=some s' at h
     refine xa (Za.mp h) fun t' ht h=>?_;refine xa (Zb.mp h) fun b' hb h=>?_;subst h;simp only [ex] at hv;refine xb (zji hv) fun m hm=>?_;exact DS.while_ hX.po (fun ρ k hk=>(zuo hX.toXE n).1 _ _ _ _ ht hk) (fun ρ o ho=>iSs _ _ _ _ hb ho) hm
   | For tg0 it0 b0 els0 p0=>
    cases els0 with
    | cons _ _=>exact zbr h hv
    | nil=>
     change ((trTg c tg0).bind fun g=>(trI1 (trE n c) c tg0 it0).bind fun i=>(trSs n c b0).map fun b'=>S.frr g i b')=some s' at h
     refine xa (Za.mp h) fun g hg h=>?_;refine xa (Za.mp h) fun i hi h=>?_;refine xa (Zb.mp h) fun b' hb h=>?_;subst h;simp only [ex] at hv;obtain⟨⟨l,ρ1⟩,hl,hv⟩:=Za.mp hv
     refine xg (trI_ok hX hi hl) fun d1 d2=>?_;exact DS.for_ hX.po hX.calm d1 (fun d ρ ρ' hd=>zun hX hg hd) (fun ρ o ho=>iSs _ _ _ _ hb ho) hv (noSet d2)
   | Expr e0 p0=>exact x_ok hX h hv
   | _=>exact zbr h hv
  ·cases l with
   | nil=>
    simp only [trSs] at h;cases h;simp only [exs] at hv;cases hv;exact DSs.nil
   | cons s l=>
    simp only [trSs] at h;refine xa (Za.mp h) fun s' hs h=>?_;refine xa (Zb.mp h) fun l2 hl h=>?_;subst h;simp only [exs] at hv;refine xa (Za.mp hv) fun o1 h1 hv=>?_;cases o1 with
    | nx ρ1=>exact DSs.next (iS _ _ _ _ hs h1) (iSs _ _ _ _ hl hv)
    | rt w=>cases hv;exact DSs.ret (iS _ _ _ _ hs h1)
end
end DL
namespace DL
open PySem L2 PyProof.Rows
def GFn (P:Program) (w:World) (K:PySem.W.Frag) (mg:Str->Option Value) (base:Heap) (k:Nat) (x:Str) (n:Nat) (φ:List D->Option W):Prop:=
 ∃ (a:Addr) (fd:FuncData) (ps:List Str),FnOk P w K mg base CX0 k a fd ps (spD K n φ)/\mg x=some (.ref a)/\PySem.W.keepIn K (.ref a)=true/\Binds K fd ps []
def GFr (P:Program) (w:World) (K:PySem.W.Frag) (mg:Str->Option Value) (base:Heap) (k:Nat) (x:Str) (n:Nat) (φ:List D->Option W):Prop:=
 ∃ (a:Addr) (fd:FuncData) (ps:List Str),FnOk P w K mg base (CX1 P w) k a fd ps (spR K n φ)/\mg x=some (.ref a)/\PySem.W.keepIn K (.ref a)=true/\Binds K fd ps []
section
variable {P:Program} {w:World} {K:PySem.W.Frag} {mg:Str->Option Value} {base:Heap}
theorem GFr.mono {j k:Nat} {x:Str} {n:Nat} {φ:List D->Option W} (G:GFr P w K mg base j x n φ) (h:j<=k):GFr P w K mg base k x n φ:=by
 refine xn G fun a fd ps F r=>?_;clear G
 exact⟨a,fd,ps,F.mono h,r⟩
theorem GFn.mono {j k:Nat} {x:Str} {n:Nat} {φ:List D->Option W} (G:GFn P w K mg base j x n φ) (h:j<=k):GFn P w K mg base k x n φ:=by
 refine xn G fun a fd ps F r=>?_;clear G
 exact⟨a,fd,ps,F.mono h,r⟩
theorem GFn.imp {k:Nat} {x:Str} {n:Nat} {φ ψ:List D->Option W} (G:GFn P w K mg base k x n φ) (h:∀ ds w,ds.length=n->ψ ds=some w->φ ds=some w):GFn P w K mg base k x n ψ:=by
 refine xn G fun a fd ps F r=>?_;clear G
 refine⟨a,fd,ps,F.imp fun vs H Q E hz=>xy hz fun Fz ds w h1 h2 h3 h4 h5=>⟨Fz,ds,w,h1,h2,h3,h ds w h3 h4,h5⟩,r⟩
theorem zva {N:List Str} {vs:List V} {i:Nat} {v:V} (h:vs[i]? = some v):(L2.start N vs)[i]? = some (some v):=by
 unfold L2.start;have hi:i<vs.length:=(Zl.mp h).1;rw [Z2 (by rw [Zd];exact hi),Zk,h];rfl
theorem yah {F:Hp} {H:Hp} {ds:List D} {vs:List V} {N:List Str} (h1:Same F H) (h2:DenL K F ds vs):SR K H F F H (L2.start N vs) (ds.map (fun d=>some (.sh d))++List.replicate (N.length-ds.length) none):=by
 have hl:vs.length=ds.length:=h2.length;refine⟨h1,Same.refl _,Same.refl _,fun a o e=>.inl e,fun i d e=>?_,fun i l e=>?_,fun i j l m a e=>?_,?_⟩
 ·by_cases hi:i<ds.length
  ·rw [Z2 (by rw [Zd];exact hi),Zk] at e;cases q:ds[i]? with
   | none=>rw [q] at e;cases e
   | some d'=>
    rw [q] at e;cases e;refine xa (h2.get q) fun v hv r=>?_;exact⟨v,zva hv,r⟩
  ·rw [Zu (by rw [Zd];omega)] at e;rw [Qf] at e;split at e <;> cases e
 ·by_cases hi:i<ds.length
  ·rw [Z2 (by rw [Zd];exact hi),Zk] at e;cases q:ds[i]? with
   | none=>rw [q] at e;cases e
   | some d'=>rw [q] at e;cases e
  ·rw [Zu (by rw [Zd];omega)] at e;rw [Qf] at e;split at e <;> cases e
 ·by_cases hi:i<ds.length
  ·rw [Z2 (by rw [Zd];exact hi),Zk] at e;cases q:ds[i]? with
   | none=>rw [q] at e;cases e
   | some d'=>rw [q] at e;cases e
  ·rw [Zu (by rw [Zd];omega)] at e;rw [Qf] at e;split at e <;> cases e
 ·unfold L2.start;rw [Zq,Zq,Zd,Zd,Y5,Y5,hl]
structure Deps (P:Program) (w:World) (K:PySem.W.Frag) (mg:Str->Option Value) (base:Heap) (k:Nat) (Γ:Nat->List D->Option W) (fns rzs:List (Str×Nat×Nat)) (xs:Bool):Prop where
 fns:∀ x f n,fns.lookup x=some (f,n)->GFn P w K mg base k x n (Γ f)
 rzs:∀ x f n,rzs.lookup x=some (f,n)->GFr P w K mg base k x n (Γ f)
 xf:xs=true->XFacts K mg
 blt:∀ x∈zcg,mg x=none
theorem xc_of {CX:CXT} {qual:Str} {sc:Scope} {f:Addr} {N ps:List Str} {k:Nat} {fns rzs:List (Str×Nat×Nat)} {xs:Bool} {Γ:Nat->List D->Option W} {cdv:Value} {A:Around} {outer:List Env} {s:Shared} {H:Hp} {E:XK} (S:FnScope N ps sc) (hd:Deps P w K mg base k Γ fns rzs xs)
  (hr:Room k (A.deeper (envOfC qual sc s.heap.objs.size f cdv))):XC (cxOf CX P w K mg base N qual sc f cdv A outer s H E).nox ⟨N,sc,fns,rzs,xs⟩ Γ:=by
 refine⟨⟨rfl,rfl,S.nd,rfl,S.kind,fun x f n h=>?_,hd.xf,hr.units,hd.blt⟩,fun _=>rfl,PassesOwn.never,fun x f n h=>?_,rfl,rfl,rfl⟩
 ·refine xo (hd.fns x f n h) fun a fd ps G g1 g2 g3=>?_;exact⟨k,a,fd,ps,G,hr,g1,g2,g3⟩
 ·refine xo (hd.rzs x f n h) fun a fd ps G g1 g2 g3=>?_;exact⟨k,a,fd,ps,G,hr,g1,g2,g3⟩
theorem zrv {x qual:Str} {st:Stmt} {f:Addr} {fd:FuncData} {N ps:List Str} {k m:Nat} {fns rzs:List (Str×Nat×Nat)} {xs:Bool} {Γ:Nat->List D->Option W} {body:Ss} (F:Fun K x qual st f fd) (S:FnScope N ps (Bo st))
  (hTr:trSs m ⟨N,Bo st,fns,rzs,xs⟩ (Bt st)=some body) (hd:Deps P w K mg base k Γ fns rzs xs) :
  FnOk P w K mg base CX0 (k+1) f fd ps (spD K ps.length (run Γ body N.length)):=by
 refine F.ok S (fun vs H Q E hz=>xy hz fun Fz ds w h1 h2 h3 h4 h5=>by rw [h2.length];exact h3) (fun cdv A outer s H vs Q E hr hz=>xy hz fun Fz ds wv h1 h2 h3 h4 h5=>?_);have hX:=xc_of (CX:=CX0) (E:=E) (outer:=outer) (H:=H) S hd hr;unfold run at h4;refine xa (Za.mp h4) fun o ho h4=>?_;have hS:=(trS_ok hX m).2 _ _ _ _ hTr ho;refine⟨_,hS H Fz,Fz,yah h1 h2,?_⟩
 cases o with
 | rt w'=>
  cases h4;exact fun v H' F' r q=>h5 v H' F' r.same r.base r.sub (fun a o e=>r.new a o e) q
 | nx ρ'=>
  cases h4;exact fun σ' H' F' s' S'=>h5 _ H' F' S'.same S'.base S'.sub (fun a o e=>S'.new a o e) (RW.v Den.non_mk)
theorem gfn_of {x qual:Str} {st:Stmt} {f:Addr} {fd:FuncData} {N ps:List Str} {k m n:Nat} {fns rzs:List (Str×Nat×Nat)} {xs:Bool} {Γ:Nat->List D->Option W} {body:Ss} {φ:List D->Option W} (F:Fun K x qual st f fd) (S:FnScope N ps (Bo st)) (hB:Binds K fd ps [])
  (hm:mg x=some (.ref f)) (hTr:trSs m ⟨N,Bo st,fns,rzs,xs⟩ (Bt st)=some body) (hn:ps.length=n) (hd:Deps P w K mg base k Γ fns rzs xs)
  (hφ:∀ ds w,ds.length=n->φ ds=some w->run Γ body N.length ds=some w):GFn P w K mg base (k+1) x n φ:=by
 subst hn;exact GFn.imp ⟨f,fd,ps,zrv F S hTr hd,hm,F.kp,hB⟩ hφ
theorem Fun.okR {x qual:Str} {st:Stmt} {f:Addr} {fd:FuncData} {N ps:List Str} {k:Nat} {sp:Sp} (F:Fun K x qual st f fd) (S:FnScope N ps (Bo st)) (len:∀ vs H Q E,sp vs H Q E->vs.length=ps.length)
  (hbody:∀ (cdv:Value) (A:Around) (outer:List Env) (s:Shared) (H:Hp) (vs:List V) (Q:VK) (E:XK),Room k (A.deeper (envOfC qual (Bo st) s.heap.objs.size f cdv))->sp vs H Q E ->
   ∃ t,PSs (cxOf (CX1 P w) P w K mg base N qual (Bo st) f cdv A outer s H E) (Bt st) t/\t {nx:=fun _ H'=>Q .non H',rt:=Q} (L2.start N vs) H):FnOk P w K mg base (CX1 P w) (k+1) f fd ps sp:=by
 obtain⟨oc,od,kV,doc,pm,an,cdv,ct,osl,rfl,lk,hcd⟩:=F.ex
 exact fn_of lk hcd S len fun A outer s H vs Q E hr hsp=>hbody cdv A outer s H vs Q E hr hsp
end
end DL
namespace DL
open PySem L2 PyProof.Rows
def At (K:PySem.W.Frag) (x:Str) (st:Stmt):Prop:=∃ (f:Addr) (oc:Value) (od:Option Addr) (kV doc pm:Value) (an:Option Addr) (cdv ct:Value) (osl:Array (Option Value)),
 PySem.W.nsIn K mainGlobals x=some (some (.ref f))/\K.lookup f=some ⟨oc,od,.func (PySem.W.fnOf x x (zcj st) (Bt st) (Bo st) .none kV doc pm an cdv ct),osl⟩/\PySem.W.codeIn K cdv x=true/\PySem.W.keepIn K (.ref f)=true
theorem at_mk {K:PySem.W.Frag} {x:Str} {st:Stmt} {f:Addr} {oc:Value} {od:Option Addr} {kV doc pm:Value} {an:Option Addr} {cdv ct:Value} {osl:Array (Option Value)} (a:PySem.W.nsIn K mainGlobals x=some (some (.ref f)))
  (l:K.lookup f=some ⟨oc,od,.func (PySem.W.fnOf x x (zcj st) (Bt st) (Bo st) .none kV doc pm an cdv ct),osl⟩) (c:PySem.W.codeIn K cdv x=true) (k:PySem.W.keepIn K (.ref f)=true):At K x st:=⟨f,oc,od,kV,doc,pm,an,cdv,ct,osl,a,l,c,k⟩
def Bnd (x:Str) (st:Stmt) (ps:List Str):Prop:=∀ (kV doc pm:Value) (an:Option Addr) (cdv ct:Value) (us:List Value),us.length=ps.length->bindArgs (PySem.W.fnOf x x (zcj st) (Bt st) (Bo st) .none kV doc pm an cdv ct) ⟨us,[]⟩=pure (ps.zip us)
def Calls (P:Program) (w:World) (K:PySem.W.Frag) (mg:Str->Option Value) (base:Heap) (k:Nat) (Γ:Nat->List D->Option W) (fns:List (Str×Nat×Nat)):Prop:=∀ x f n,fns.lookup x=some (f,n)->GFn P w K mg base k x n (Γ f)
def CallsR (P:Program) (w:World) (K:PySem.W.Frag) (mg:Str->Option Value) (base:Heap) (k:Nat) (Γ:Nat->List D->Option W) (fns:List (Str×Nat×Nat)):Prop:=∀ x f n,fns.lookup x=some (f,n)->GFr P w K mg base k x n (Γ f)
section
variable {P:Program} {w:World} {K:PySem.W.Frag} {mg:Str->Option Value} {base:Heap} {Γ:Nat->List D->Option W}
theorem Calls.nil {k:Nat}:Calls P w K mg base k Γ []:=fun x f n h=>by cases h
theorem Calls.cons {j k f n:Nat} {x:Str} {l:List (Str×Nat×Nat)} (h:GFn P w K mg base j x n (Γ f)) (hj:j<=k) (r:Calls P w K mg base k Γ l):Calls P w K mg base k Γ ((x,f,n)::l):=fun y g m e=>by
 rw [W3] at e;cases q:(y == x) with
 | true=>
  rw [q] at e;cases e;have:=eq_of_beq q
  subst this;exact h.mono hj
 | false=>rw [q] at e;exact r y g m e
theorem CallsR.nil {k:Nat}:CallsR P w K mg base k Γ []:=fun x f n h=>by cases h
theorem CallsR.cons {j k f n:Nat} {x:Str} {l:List (Str×Nat×Nat)} (h:GFr P w K mg base j x n (Γ f)) (hj:j<=k) (r:CallsR P w K mg base k Γ l):CallsR P w K mg base k Γ ((x,f,n)::l):=fun y g m e=>by
 rw [W3] at e;cases q:(y == x) with
 | true=>
  rw [q] at e;cases e;have:=eq_of_beq q
  subst this;exact h.mono hj
 | false=>rw [q] at e;exact r y g m e
theorem B6 {h:Heap} {x:Str} {st:Stmt} {N ps:List Str} {k m n:Nat} {fns rzs:List (Str×Nat×Nat)} {xs:Bool} {body:Ss} {φ:List D->Option W} (A:At K x st) (X:K.In h) (G:h.Ns mainGlobals mg) (S:FnScope N ps (Bo st)) (B:Bnd x st ps)
  (hTr:trSs m ⟨N,Bo st,fns,rzs,xs⟩ (Bt st)=some body) (hn:ps.length=n) (hd:Deps P w K mg base k Γ fns rzs xs)
  (hφ:∀ ds w,ds.length=n->φ ds=some w->run Γ body N.length ds=some w):GFn P w K mg base (k+1) x n φ:=by
 obtain⟨f,oc,od,kV,doc,pm,an,cdv,ct,osl,a,l,c,kp⟩:=A
 have F:=yfb (st:=st) l c kp;exact gfn_of F S (F.binds B) (Be X G a) hTr hn hd hφ
theorem law_at {h:Heap} {x p:Str} {st:Stmt} {N:List Str} {k m:Nat} {fa:Addr} {fns rzs:List (Str×Nat×Nat)} {xs:Bool} {body:Ss} (A:At K x st) (X:K.In h) (G:h.Ns mainGlobals mg) (hfa:mg x=some (.ref fa)) (S:FnScope N [p] (Bo st)) (B:Bnd x st [p])
  (hTr:trSs m ⟨N,Bo st,fns,rzs,xs⟩ (Bt st)=some body) (hc:∀ base:Heap,K.In base->base.Ns mainGlobals mg->Deps P w K mg base k Γ fns rzs xs) :
  ∃ fd:FuncData,(∀ (s:Shared) (v:Value),BindsTo s fd ⟨[v],[]⟩ [(p,v)])/\∀ base:Heap,K.In base->base.Ns mainGlobals mg->FnOk P w K mg base CX0 (k+1) fa fd [p] (spD K 1 (run Γ body N.length)):=by
 obtain⟨f,oc,od,kV,doc,pm,an,cdv,ct,osl,a,l,c,kp⟩:=A
 have e:=hfa.symm.trans (Be X G a);cases e;have F:=yfb (st:=st) l c kp;exact⟨_,fun s v=>.of_eq (B kV doc pm an cdv ct [v] rfl),fun base hk hn=>zrv F S hTr (hc base hk hn)⟩
theorem ybu {n:Nat} {φ:List D->Option W} (hφ:∀ ns:List Int,ns.length<=n->φ [.lst (ns.map D.int)]=some (.val (.bl true))) (H:Hp) (a:Addr) (ns:List Int) (hl:ns.length<=n) (hS:SqL K H a (ns.map V.int)) :
  spD K 1 φ [.ref a] H (fun v _=>v=.bl true) fun _ _ _=>False:=
 ⟨H,[.lst (ns.map D.int)],.val (.bl true),Same.refl _,DenL.cons (Den.lst_mk hS (DenL.ints ns)) DenL.nil,rfl,hφ ns hl,fun v H' F' _ _ _ _ q=>(show Den K F' (.bl true) v from q).bl⟩
theorem ycw {h:Heap} (X:K.In h) (G:h.Ns mainGlobals mg) (hz:∀ x∈zcg,PySem.W.nsIn K mainGlobals x=some none):∀ x∈zcg,mg x=none:=fun x hx=>PySem.W.mg_none_of X G (hz x hx)
end
section
variable {K:PySem.W.Frag} {mg:Str->Option Value}
end
end DL
namespace DL
noncomputable def bin2 (f:D->D->Option W):Option D->Option D->Option W
 | some x,some y=>f x y
 | _,_=>none
noncomputable def un1 (f:D->Option W):Option D->Option W
 | some x=>f x
 | _=>none
noncomputable def andO:Option Bool->Option W->Option W
 | some true,y=>y
 | some false,_=>some (.val (.bl false))
 | none,_=>none
noncomputable def orO:Option Bool->Option W->Option W
 | some true,_=>some (.val (.bl true))
 | some false,y=>y
 | none,_=>none
noncomputable def iffO {α:Type}:Option Bool->Option α->Option α->Option α
 | some true,x,_=>x
 | some false,_,y=>y
 | none,_,_=>none
noncomputable def appL (f:List D->Option W):Option (List D)->Option W
 | some l=>f l
 | none=>none
noncomputable def consO:Option D->Option (List D)->Option (List D)
 | some d,some l=>some (d::l)
 | _,_=>none
noncomputable def slO:Option D->Option (Option Int)->Option (Option Int)->Option W
 | some x,some i,some j=>slD x i j
 | _,_,_=>none
noncomputable def cmpW (c:Cm) (x y:D):Option W:=(cmpD c x y).map fun k=>.val (.bl k)
noncomputable def ixW (x y:D):Option W:=(ixD x y).map W.val
noncomputable def negW:D->Option W
 | .int i=>some (.val (.int (-i)))
 | _=>none
noncomputable def notW:Option Bool->Option W
 | some k=>some (.val (.bl (!k)))
 | none=>none
noncomputable def tupW (ds:List D):Option W:=if ds.length<=PySem.sizeLine then some (.val (.tup ds)) else none
noncomputable def lstW (ds:List D):Option W:=if ds.length<=PySem.sizeLine then some (.new ds) else none
noncomputable def isiW (t:Ty) (d:D):Option W:=(ztk t d).map fun k=>.val (.bl k)
noncomputable def isxW (ys:List PySem.Str) (d:D):Option W:=(isX ys d).map fun k=>.val (.bl k)
theorem isiW_i {t:Ty} {i:Int}:isiW t (.int i)=some (.val (.bl (isTy t (.int i)))):=rfl
theorem isiW_b {t:Ty} {i:Bool}:isiW t (.bl i)=some (.val (.bl (isTy t (.bl i)))):=rfl
theorem isiW_t {t:Ty} {l:List D}:isiW t (.tup l)=some (.val (.bl (isTy t (.tup l)))):=rfl
theorem isiW_l {t:Ty} {l:List D}:isiW t (.lst l)=some (.val (.bl (isTy t (.lst l)))):=rfl
theorem isiW_n {t:Ty}:isiW t .non=some (.val (.bl (isTy t .non))):=rfl
theorem isxW_n {ys:List PySem.Str}:isxW ys .non=some (.val (.bl false)):=rfl
section
variable {Γ:Nat->List D->Option W} {ρ:Rho}
noncomputable def evd (Γ:Nat->List D->Option W) (e:E) (ρ:Rho):Option D:=(ev Γ e ρ).map W.d
noncomputable def evb (Γ:Nat->List D->Option W) (e:E) (ρ:Rho):Option Bool:=(evd Γ e ρ).bind zco
theorem ev_var {i:Nat}:ev Γ (.var i) ρ=(varD ρ i).map W.val:=by simp only [ev]
theorem ev_int {i:Int}:ev Γ (.int i) ρ=some (.val (.int i)):=by simp only [ev]
theorem ev_bl {i:Bool}:ev Γ (.bl i) ρ=some (.val (.bl i)):=by simp only [ev]
theorem ev_non:ev Γ .non ρ=some (.val .non):=by simp only [ev]
theorem ev_bin {o:Op} {a b:E}:ev Γ (.bin o a b) ρ=bin2 (opW o) (evd Γ a ρ) (evd Γ b ρ):=by
 simp only [ev,evd];cases (ev Γ a ρ) <;> cases (ev Γ b ρ) <;> rfl
theorem ev_neg {a:E}:ev Γ (.neg a) ρ=un1 negW (evd Γ a ρ):=by
 simp only [ev,evd];cases (ev Γ a ρ) with
 | none=>rfl
 | some w=>simp only [Yq,Yd,un1];cases w.d <;> rfl
theorem ev_cmp {o:Cm} {a b:E}:ev Γ (.cmp o a b) ρ=bin2 (cmpW o) (evd Γ a ρ) (evd Γ b ρ):=by
 simp only [ev,evd];cases (ev Γ a ρ) <;> cases (ev Γ b ρ) <;> rfl
theorem ev_and {a b:E}:ev Γ (.and a b) ρ=andO (evb Γ a ρ) (ev Γ b ρ):=by
 simp only [ev,evd,evb];cases (Option.map W.d (ev Γ a ρ)).bind zco with
 | none=>rfl
 | some k=>cases k <;> rfl
theorem ev_or {a b:E}:ev Γ (.or a b) ρ=orO (evb Γ a ρ) (ev Γ b ρ):=by
 simp only [ev,evd,evb];cases (Option.map W.d (ev Γ a ρ)).bind zco with
 | none=>rfl
 | some k=>cases k <;> rfl
theorem ev_not {a:E}:ev Γ (.not a) ρ=notW (evb Γ a ρ):=by
 simp only [ev,evd,evb];cases (Option.map W.d (ev Γ a ρ)).bind zco <;> rfl
theorem ev_tup {l:Es}:ev Γ (.tup l) ρ=appL tupW (evs Γ l ρ):=by
 simp only [ev];cases (evs Γ l ρ) <;> rfl
theorem ev_lst {l:Es}:ev Γ (.lst l) ρ=appL lstW (evs Γ l ρ):=by
 simp only [ev];cases (evs Γ l ρ) <;> rfl
theorem ev_ix {a b:E}:ev Γ (.ix a b) ρ=bin2 ixW (evd Γ a ρ) (evd Γ b ρ):=by
 simp only [ev,evd];cases (ev Γ a ρ) <;> cases (ev Γ b ρ) <;> rfl
theorem ev_sl {a:E} {lo hi:EO}:ev Γ (.sl a lo hi) ρ=slO (evd Γ a ρ) (evo Γ lo ρ) (evo Γ hi ρ):=by
 simp only [ev,evd];cases (ev Γ a ρ) <;> cases (evo Γ lo ρ) <;> cases (evo Γ hi ρ) <;> rfl
theorem yjg {f:Nat} {l:Es}:ev Γ (.call f l) ρ=appL (Γ f) (evs Γ l ρ):=by
 simp only [ev];cases (evs Γ l ρ) <;> rfl
theorem ev_idx {a b:E}:ev Γ (.idx a b) ρ=bin2 idxW (evd Γ a ρ) (evd Γ b ρ):=by
 simp only [ev,evd];cases (ev Γ a ρ) <;> cases (ev Γ b ρ) <;> rfl
theorem ev_bi {f:Bi} {l:Es}:ev Γ (.bi f l) ρ=appL (biW f) (evs Γ l ρ):=by
 simp only [ev];cases (evs Γ l ρ) <;> rfl
theorem ev_isi {a:E} {t:Ty}:ev Γ (.isi a t) ρ=un1 (isiW t) (evd Γ a ρ):=by
 simp only [ev,evd];cases (ev Γ a ρ) <;> rfl
theorem zxt:evs Γ .nil ρ=some []:=by simp only [evs]
theorem zrx {e:E} {l:Es}:evs Γ (.cons e l) ρ=consO (evd Γ e ρ) (evs Γ l ρ):=by
 simp only [evs,evd];cases (ev Γ e ρ) <;> cases (evs Γ l ρ) <;> rfl
theorem yjd:evo Γ .non ρ=some none:=by simp only [evo]
theorem yjc {e:E}:evo Γ (.som e) ρ=((evd Γ e ρ).bind dInt).map some:=by simp only [evo,evd]
end
noncomputable def yad (Γ:Nat->List D->Option W):Option Out->Ss->Option Out
 | some (.nx ρ),l=>exs Γ l ρ
 | some (.rt w),_=>some (.rt w)
 | none,_=>none
noncomputable def asgO (ρ:RhoS) (i:Nat):Option W->Option Out
 | some w=>(setR (after w ρ) i w.b).map Out.nx
 | none=>none
noncomputable def unpO (ρ:RhoS) (is:List Nat):Option W->Option Out
 | some w=>(B5 (.tup is) w.d (after w ρ)).map Out.nx
 | none=>none
noncomputable def parO (ρ:RhoS) (i j:Nat):Option D->Option D->Option Out
 | some x,some y=>if lf x=true/\lf y=true/\i≠j/\i<ρ.length/\j<ρ.length then some (.nx ((ρ.set i (some (.sh x))).set j (some (.sh y)))) else none
 | _,_=>none
noncomputable def retO:Option W->Option Out
 | some w=>some (.rt w)
 | none=>none
noncomputable def yhb:Option (Option B)->Option Out
 | some (some (.ow l))=>some (.rt (.new l))
 | some (some (.sh d))=>some (.rt (.val d))
 | _=>none
noncomputable def forO (bt:D->RhoS->Option RhoS) (fb:RhoS->Option Out):Option (List D×RhoS)->Option Out
 | some (l,ρ)=>forN bt fb l ρ
 | none=>none
noncomputable def outO:Option Out->Option W
 | some (.rt w)=>some w
 | some (.nx _)=>some (.val .non)
 | none=>none
noncomputable def seqO (ρ:RhoS):Option W->Option (List D×RhoS)
 | some w=>match w.d with
  | .lst l=>some (l,after w ρ)
  | .tup l=>some (l,after w ρ)
  | _=>none
 | none=>none
noncomputable def rng1O (ρ:RhoS):Option D->Option (List D×RhoS)
 | some (.int n)=>if -(2^62)<=n/\n<2^62 then some (zag 0 n.toNat,ρ) else none
 | _=>none
noncomputable def rng2O (ρ:RhoS):Option D->Option D->Option (List D×RhoS)
 | some (.int m),some (.int n)=>if -(2^62)<=m/\m<2^62 /\ -(2^62)<=n/\n<2^62 then some (zag m (n-m).toNat,ρ) else none
 | _,_=>none
noncomputable def enumO (ρ:RhoS):Option D->Option (List D×RhoS)
 | some (.lst l)=>some (yci l,frz ρ)
 | _=>none
section
variable {Γ:Nat->List D->Option W} {ρ:RhoS}
theorem yiy:exs Γ .nil ρ=some (.nx ρ):=by simp only [exs]
theorem zrw {s:S} {l:Ss}:exs Γ (.cons s l) ρ=yad Γ (ex Γ s ρ) l:=by
 simp only [exs];cases ex Γ s ρ with
 | none=>rfl
 | some o=>cases o <;> rfl
theorem ex_asg {i:Nat} {e:E}:ex Γ (.asg i e) ρ=asgO ρ i (ev Γ e (view ρ)):=by
 simp only [ex];cases ev Γ e (view ρ) <;> rfl
theorem ex_unp {is:List Nat} {e:E}:ex Γ (.unp is e) ρ=unpO ρ is (ev Γ e (view ρ)):=by
 simp only [ex];cases ev Γ e (view ρ) <;> rfl
theorem ex_par {i j:Nat} {a b:E}:ex Γ (.par i j a b) ρ=parO ρ i j (evd Γ a (view ρ)) (evd Γ b (view ρ)):=by
 simp only [ex,evd];cases ev Γ a (view ρ) <;> cases ev Γ b (view ρ) <;> rfl
theorem ex_ret {e:E}:ex Γ (.ret e) ρ=retO (ev Γ e (view ρ)):=by
 simp only [ex];cases ev Γ e (view ρ) <;> rfl
theorem yja {i:Nat}:ex Γ (.retV i) ρ=yhb ρ[i]?:=by
 simp only [ex];cases ρ[i]? with
 | none=>rfl
 | some o=>cases o with
  | none=>rfl
  | some b=>cases b <;> rfl
theorem ex_iff {c:E} {a b:Ss}:ex Γ (.iff c a b) ρ=iffO (evb Γ c (view ρ)) (exs Γ a ρ) (exs Γ b ρ):=by
 simp only [ex,evB,evb,evd];cases (Option.map W.d (ev Γ c (view ρ))).bind zco with
 | none=>rfl
 | some k=>cases k <;> rfl
theorem ex_whl {c:E} {b:Ss}:ex Γ (.whl c b) ρ=zhd (evB Γ c) (exs Γ b) ρ:=by simp only [ex]
theorem ex_frr {t:Tg} {it:It'} {b:Ss}:ex Γ (.frr t it b) ρ=forO (B5 t) (exs Γ b) (evI Γ it ρ):=by
 simp only [ex];cases evI Γ it ρ <;> rfl
theorem evB_eq {c:E}:evB Γ c ρ=evb Γ c (view ρ):=rfl
theorem yji {e:E}:evI Γ (.seq e) ρ=seqO ρ (ev Γ e (view ρ)):=by
 simp only [evI];cases ev Γ e (view ρ) <;> rfl
theorem ych {i:Nat}:evI Γ (.seqV i) ρ=seqB ρ ρ[i]?:=by simp only [evI]
theorem seqB_l {l:List D}:seqB ρ (some (some (.sh (.lst l))))=some (l,ρ):=rfl
theorem seqB_t {l:List D}:seqB ρ (some (some (.sh (.tup l))))=some (l,ρ):=rfl
theorem seqB_o {l:List D}:seqB ρ (some (some (.ow l)))=some (l,frz ρ):=rfl
theorem ztq {e:E}:evI Γ (.range1 e) ρ=rng1O ρ (evd Γ e (view ρ)):=by
 simp only [evI,evd];cases ev Γ e (view ρ) with
 | none=>rfl
 | some w=>simp only [Yq,Yd];cases w.d <;> rfl
theorem ztp {a b:E}:evI Γ (.range2 a b) ρ=rng2O ρ (evd Γ a (view ρ)) (evd Γ b (view ρ)):=by
 simp only [evI,evd];cases ev Γ a (view ρ) with
 | none=>rfl
 | some w=>
  cases ev Γ b (view ρ) with
  | none=>simp only [Yq,Yd];cases w.d <;> rfl
  | some u=>simp only [Yq,Yd];cases w.d <;> cases u.d <;> rfl
theorem run_eq {b:Ss} {n:Nat} {ds:List D}:run Γ b n ds=outO (exs Γ b (ds.map (fun d=>some (.sh d))++List.replicate (n-ds.length) none)):=by
 unfold run;cases exs Γ b (ds.map (fun d=>some (.sh d))++List.replicate (n-ds.length) none) with
 | none=>rfl
 | some o=>cases o <;> rfl
end
section
variable {Γ:Nat->List D->Option W} {ρ:RhoS}
theorem bin2_s {f:D->D->Option W} {x y:D}:bin2 f (some x) (some y)=f x y:=rfl
theorem un1_s {f:D->Option W} {x:D}:un1 f (some x)=f x:=rfl
theorem andO_t {y:Option W}:andO (some true) y=y:=rfl
theorem andO_f {y:Option W}:andO (some false) y=some (.val (.bl false)):=rfl
theorem orO_t {y:Option W}:orO (some true) y=some (.val (.bl true)):=rfl
theorem orO_f {y:Option W}:orO (some false) y=y:=rfl
theorem iffO_t {α:Type} {x y:Option α}:iffO (some true) x y=x:=rfl
theorem iffO_f {α:Type} {x y:Option α}:iffO (some false) x y=y:=rfl
theorem appL_s {f:List D->Option W} {l:List D}:appL f (some l)=f l:=rfl
theorem yjp {d:D} {l:List D}:consO (some d) (some l)=some (d::l):=rfl
theorem slO_s {x:D} {i j:Option Int}:slO (some x) (some i) (some j)=slD x i j:=rfl
theorem notW_s {k:Bool}:notW (some k)=some (.val (.bl (!k))):=rfl
theorem yac {l:Ss}:yad Γ (some (.nx ρ)) l=exs Γ l ρ:=rfl
theorem yab {l:Ss} {w:W}:yad Γ (some (.rt w)) l=some (.rt w):=rfl
theorem asgO_s {i:Nat} {w:W}:asgO ρ i (some w)=(setR (after w ρ) i w.b).map Out.nx:=rfl
theorem unpO_s {is:List Nat} {w:W}:unpO ρ is (some w)=(B5 (.tup is) w.d (after w ρ)).map Out.nx:=rfl
theorem parO_s {i j:Nat} {x y:D}:parO ρ i j (some x) (some y)=if lf x=true/\lf y=true/\i≠j/\i<ρ.length/\j<ρ.length then some (.nx ((ρ.set i (some (.sh x))).set j (some (.sh y)))) else none:=rfl
theorem retO_s {w:W}:retO (some w)=some (.rt w):=rfl
theorem yha {l:List D}:yhb (some (some (.ow l)))=some (.rt (.new l)):=rfl
theorem ygz {d:D}:yhb (some (some (.sh d)))=some (.rt (.val d)):=rfl
theorem forO_s {bt:D->RhoS->Option RhoS} {fb:RhoS->Option Out} {l:List D}:forO bt fb (some (l,ρ))=forN bt fb l ρ:=rfl
theorem yhp {w:W}:outO (some (.rt w))=some w:=rfl
theorem yhq:outO (some (.nx ρ))=some (.val .non):=rfl
theorem ygs {l:List D}:seqO ρ (some (.new l))=some (l,after (.new l) ρ):=rfl
theorem ygr {l:List D}:seqO ρ (some (.val (.lst l)))=some (l,after (.val (.lst l)) ρ):=rfl
theorem ygq {l:List D}:seqO ρ (some (.val (.tup l)))=some (l,after (.val (.tup l)) ρ):=rfl
theorem yjj {l:List D}:enumO ρ (some (.lst l))=some (yci l,frz ρ):=rfl
theorem ygx {n:Int}:rng1O ρ (some (.int n))=if -(2^62)<=n/\n<2^62 then some (zag 0 n.toNat,ρ) else none:=rfl
theorem ygw {m n:Int}:rng2O ρ (some (.int m)) (some (.int n))=if -(2^62)<=m/\m<2^62 /\ -(2^62)<=n/\n<2^62 then some (zag m (n-m).toNat,ρ) else none:=rfl
theorem varD_0 {o:Option D} {r:Rho}:varD (o::r) 0=o:=by cases o <;> rfl
theorem varD_s {o:Option D} {r:Rho} {i:Nat}:varD (o::r) (i+1)=varD r i:=rfl
theorem zzp:view []=[]:=rfl
theorem zug {o:Option B} {r:RhoS}:view (o::r)=o.map B.d::view r:=rfl
theorem ykr {i:Int}:after (.val (.int i)) ρ=ρ:=rfl
theorem yks {i:Bool}:after (.val (.bl i)) ρ=ρ:=rfl
theorem ykq:after (.val .non) ρ=ρ:=rfl
theorem Wd_v {d:D}:(W.val d).d=d:=rfl
theorem Wd_n {l:List D}:(W.new l).d=.lst l:=rfl
theorem Wb_v {d:D}:(W.val d).b=.sh d:=rfl
theorem Wb_n {l:List D}:(W.new l).b=.ow l:=rfl
theorem Bd_s {d:D}:(B.sh d).d=d:=rfl
theorem Bd_o {l:List D}:(B.ow l).d=.lst l:=rfl
theorem yjm {k:Bool}:zco (.bl k)=some k:=rfl
theorem dInt_s {k:Int}:dInt (.int k)=some k:=rfl
theorem zjl {o:Option B} {b:B}:setR (o::ρ) 0 b=some (some b::ρ):=rfl
theorem zjk {o:Option B} {i:Nat} {b:B}:setR (o::ρ) (i+1) b=(setR ρ i b).map (o :: ·):=by
 unfold setR;by_cases h:i<ρ.length
 ·rw [if_pos h,if_pos (by rw [Zj];omega)];rfl
 ·rw [if_neg h,if_neg (by rw [Zj];omega)];rfl
theorem op_add {a b:Int}:opW .add (.int a) (.int b)=some (.val (.int (a+b))):=rfl
theorem op_sub {a b:Int}:opW .sub (.int a) (.int b)=some (.val (.int (a-b))):=rfl
theorem op_mul {a b:Int}:opW .mul (.int a) (.int b)=if B0 a b=true then some (.val (.int (a*b))) else none:=rfl
theorem op_fdiv {a b:Int}:opW .fdiv (.int a) (.int b)=if zcy b=true then some (.val (.int (a.fdiv b))) else none:=rfl
theorem op_mod {a b:Int}:opW .mod (.int a) (.int b)=if b=0 then none else some (.val (.int (a.fmod b))):=rfl
theorem op_pow {a b:Int}:opW .pow (.int a) (.int b)=if zmx a b=true then some (.val (.int (a^b.toNat))) else none:=rfl
end
theorem sl0:(0<=PySem.sizeLine)=True:=eq_true (by decide)
theorem sl1:(1<=PySem.sizeLine)=True:=eq_true (by decide)
theorem sl2:(2<=PySem.sizeLine)=True:=eq_true (by decide)
theorem sl3:(3<=PySem.sizeLine)=True:=eq_true (by decide)
theorem at1_0 {a:D}:L2.atI [a] 0=some a:=rfl
theorem at2_0 {a b:D}:L2.atI [a,b] 0=some a:=rfl
theorem at2_1 {a b:D}:L2.atI [a,b] 1=some b:=rfl
theorem at3_0 {a b c:D}:L2.atI [a,b,c] 0=some a:=rfl
theorem at3_1 {a b c:D}:L2.atI [a,b,c] 1=some b:=rfl
theorem at3_2 {a b c:D}:L2.atI [a,b,c] 2=some c:=rfl
theorem at4_0 {a b c d:D}:L2.atI [a,b,c,d] 0=some a:=rfl
theorem at4_1 {a b c d:D}:L2.atI [a,b,c,d] 1=some b:=rfl
theorem at4_2 {a b c d:D}:L2.atI [a,b,c,d] 2=some c:=rfl
theorem at4_3 {a b c d:D}:L2.atI [a,b,c,d] 3=some d:=rfl
theorem at5_0 {a b c d e:D}:L2.atI [a,b,c,d,e] 0=some a:=rfl
theorem at5_1 {a b c d e:D}:L2.atI [a,b,c,d,e] 1=some b:=rfl
theorem at5_2 {a b c d e:D}:L2.atI [a,b,c,d,e] 2=some c:=rfl
theorem at5_3 {a b c d e:D}:L2.atI [a,b,c,d,e] 3=some d:=rfl
theorem at5_4 {a b c d e:D}:L2.atI [a,b,c,d,e] 4=some e:=rfl
theorem at6_0 {a b c d e f:D}:L2.atI [a,b,c,d,e,f] 0=some a:=rfl
theorem at6_1 {a b c d e f:D}:L2.atI [a,b,c,d,e,f] 1=some b:=rfl
theorem at6_2 {a b c d e f:D}:L2.atI [a,b,c,d,e,f] 2=some c:=rfl
theorem at6_3 {a b c d e f:D}:L2.atI [a,b,c,d,e,f] 3=some d:=rfl
theorem at6_4 {a b c d e f:D}:L2.atI [a,b,c,d,e,f] 4=some e:=rfl
theorem at6_5 {a b c d e f:D}:L2.atI [a,b,c,d,e,f] 5=some f:=rfl
theorem zlc {a b:Int} (h:0<b):a.fmod b=a%b:=Qr _ (by omega)
theorem ycf {a b:Int} (h:0<b):a.fdiv b=a/b:=Kw _ (by omega)
theorem zdy {b:Int} (h0:0<b) (h1:b<1000000000000000000000000000000000000000000000000000000000000000000000000000000000000000000000000000000000000000000000000000000000000000000000000000000):zcy b=true:=by
 unfold zcy;rw [Zm];refine⟨decide_eq_true (by omega),decide_eq_true ?_⟩
 have:(1000000000000000000000000000000000000000000000000000000000000000000000000000000000000000000000000000000000000000000000000000000000000000000000000000000:Nat)<=2^9000:=by decide +kernel
 omega
theorem zah {a b:Int} (h0 : -1000000000000000000000000000000000000000000000000000000000000000000000000000000000000000000000000000000000000000000000000000000000000000000000000000000<a) (h1:a<1000000000000000000000000000000000000000000000000000000000000000000000000000000000000000000000000000000000000000000000000000000000000000000000000000000) (h2 : -1000000000000000000000000000000000000000000000000000000000000000000000000000000000000000000000000000000000000000000000000000000000000000000000000000000<b) (h3:b<1000000000000000000000000000000000000000000000000000000000000000000000000000000000000000000000000000000000000000000000000000000000000000000000000000000):B0 a b=true:=by
 unfold B0;rw [Zm];have:(1000000000000000000000000000000000000000000000000000000000000000000000000000000000000000000000000000000000000000000000000000000000000000000000000000000:Nat)<=2^16000:=by decide +kernel
 exact⟨decide_eq_true (by omega),decide_eq_true (by omega)⟩
theorem op_p6:opW .pow (.int 10) (.int 6)=some (.val (.int 1000000)):=by
 have h:zmx 10 6=true:=by decide +kernel
 have e:((10:Int)^Int.toNat 6)=1000000:=by decide +kernel
 rw [op_pow,if_pos h,e]
theorem op_p9:opW .pow (.int 10) (.int 9)=some (.val (.int 1000000000)):=by
 have h:zmx 10 9=true:=by decide +kernel
 have e:((10:Int)^Int.toNat 9)=1000000000:=by decide +kernel
 rw [op_pow,if_pos h,e]
theorem op_p18:opW .pow (.int 10) (.int 18)=some (.val (.int 1000000000000000000)):=by
 have h:zmx 10 18=true:=by decide +kernel
 have e:((10:Int)^Int.toNat 18)=1000000000000000000:=by decide +kernel
 rw [op_pow,if_pos h,e]
theorem op_p64:opW .pow (.int 10) (.int 64)=some (.val (.int 10000000000000000000000000000000000000000000000000000000000000000)):=by
 have h:zmx 10 64=true:=by decide +kernel
 have e:((10:Int)^Int.toNat 64)=10000000000000000000000000000000000000000000000000000000000000000:=by decide +kernel
 rw [op_pow,if_pos h,e]
theorem cs0:((0:Nat):Int)=0:=rfl
theorem cs1:((1:Nat):Int)=1:=rfl
theorem cs2:((2:Nat):Int)=2:=rfl
theorem cs3:((3:Nat):Int)=3:=rfl
theorem cs4:((4:Nat):Int)=4:=rfl
theorem cs5:((5:Nat):Int)=5:=rfl
theorem cs6:((6:Nat):Int)=6:=rfl
theorem cs7:((7:Nat):Int)=7:=rfl
theorem cs8:((8:Nat):Int)=8:=rfl
theorem cs9:((9:Nat):Int)=9:=rfl
theorem cs10:((10:Nat):Int)=10:=rfl
theorem cs11:((11:Nat):Int)=11:=rfl
theorem cs12:((12:Nat):Int)=12:=rfl
theorem ixD_t {l:List D} {i:Int}:ixD (.tup l) (.int i)=L2.atI l i:=rfl
theorem ixD_l {l:List D} {i:Int}:ixD (.lst l) (.int i)=L2.atI l i:=rfl
theorem slD_l {l:List D} {i j:Option Int}:slD (.lst l) i j=some (.new (cutD l i j)):=rfl
theorem zgz {i:Nat} {d:D} {ρ:RhoS}:B5 (.name i) d ρ=setR ρ i (.sh d):=rfl
theorem zll {is:List Nat} {ds:List D} {ρ:RhoS}:B5 (.tup is) (.tup ds) ρ=zcv is ds ρ:=rfl
noncomputable def appO (ρ:RhoS) (i:Nat):Option (Option B)->Option W->Option Out
 | some (some (.ow l)),some (.val d)=>if lf d=true/\l.length<PySem.sizeLine then some (.nx (ρ.set i (some (.ow (l++[d]))))) else none
 | _,_=>none
noncomputable def popO (ρ:RhoS) (i:Nat):Option (Option B)->Option Out
 | some (some (.ow l))=>if l=[] then none else some (.nx (ρ.set i (some (.ow l.dropLast))))
 | _=>none
noncomputable def clrO (ρ:RhoS) (i:Nat):Option (Option B)->Option Out
 | some (some (.ow _))=>some (.nx (ρ.set i (some (.ow []))))
 | _=>none
noncomputable def zsy (ρ:RhoS) (i:Nat):Option (Option B)->Option W->Option D->Option Out
 | some (some (.ow l)),some (.val d),some (.int j)=>if lf d=true then (L2.ixN l.length j).map fun n=>.nx (ρ.set i (some (.ow (l.set n d)))) else none
 | _,_,_=>none
section
variable {Γ:Nat->List D->Option W} {ρ:RhoS}
theorem ex_app {i:Nat} {e:E}:ex Γ (.app i e) ρ=appO ρ i ρ[i]? (ev Γ e (view ρ)):=by
 simp only [ex];cases ev Γ e (view ρ) with
 | none=>
  rw [Uu];unfold appO;cases ρ[i]? with
  | none=>rfl
  | some o=>cases o with
   | none=>rfl
   | some b=>cases b <;> rfl
 | some w=>
  rw [Yd];unfold appO;cases ρ[i]? with
  | none=>rfl
  | some o=>cases o with
   | none=>rfl
   | some b=>cases b <;> cases w <;> rfl
theorem ex_pop {i:Nat}:ex Γ (.pop i) ρ=popO ρ i ρ[i]?:=by
 simp only [ex];unfold popO;cases ρ[i]? with
 | none=>rfl
 | some o=>cases o with
  | none=>rfl
  | some b=>cases b <;> rfl
theorem ex_clr {i:Nat}:ex Γ (.clr i) ρ=clrO ρ i ρ[i]?:=by
 simp only [ex];unfold clrO;cases ρ[i]? with
 | none=>rfl
 | some o=>cases o with
  | none=>rfl
  | some b=>cases b <;> rfl
theorem yiz {i:Nat} {k e:E}:ex Γ (.seti i k e) ρ=zsy ρ i ρ[i]? (ev Γ e (view ρ)) (evd Γ k (view ρ)):=by
 simp only [ex,evd];cases ev Γ e (view ρ) with
 | none=>
  rw [Uu];unfold zsy;cases ρ[i]? with
  | none=>rfl
  | some o=>cases o with
   | none=>rfl
   | some b=>cases b <;> rfl
 | some w=>
  rw [Yd];cases ev Γ k (view ρ) with
  | none=>
   unfold zsy;cases ρ[i]? with
   | none=>rfl
   | some o=>cases o with
    | none=>rfl
    | some b=>cases b <;> cases w <;> rfl
  | some u=>
   simp only [Yq,Yd];cases u.d with
   | int j=>
    unfold zsy;cases ρ[i]? with
    | none=>rfl
    | some o=>cases o with
     | none=>rfl
     | some b=>cases b <;> cases w <;> rfl
   | _=>
    unfold zsy;cases ρ[i]? with
    | none=>rfl
    | some o=>cases o with
     | none=>rfl
     | some b=>cases b <;> cases w <;> rfl
theorem appO_s {i:Nat} {l:List D} {d:D}:appO ρ i (some (some (.ow l))) (some (.val d))=if lf d=true/\l.length<PySem.sizeLine then some (.nx (ρ.set i (some (.ow (l++[d]))))) else none:=rfl
theorem popO_s {i:Nat} {l:List D}:popO ρ i (some (some (.ow l)))=if l=[] then none else some (.nx (ρ.set i (some (.ow l.dropLast)))):=rfl
theorem clrO_s {i:Nat} {l:List D}:clrO ρ i (some (some (.ow l)))=some (.nx (ρ.set i (some (.ow [])))):=rfl
theorem ygp {i:Nat} {l:List D} {d:D} {j:Int}:zsy ρ i (some (some (.ow l))) (some (.val d)) (some (.int j))=if lf d=true then (L2.ixN l.length j).map fun n=>.nx (ρ.set i (some (.ow (l.set n d)))) else none:=rfl
end
section
variable {Γ:Nat->List D->Option W} {ρ:Rho}
theorem ev_fm {f:Fm} {l:Es}:ev Γ (.fm f l) ρ=appL (fmW f) (evs Γ l ρ):=by
 simp only [ev];cases (evs Γ l ρ) <;> rfl
theorem ev_lcp {a:E}:ev Γ (.lcp a) ρ=un1 lcpW (evd Γ a ρ):=by
 simp only [ev,evd];cases (ev Γ a ρ) <;> rfl
noncomputable def zsv (Γ:Nat->List D->Option W) (elt:E) (t:Tg) (nt:Nat) (fr:List Nat) (c:EO) (ρ:Rho) (d:D):Option (Option D):=
 (zbo t d (blkR nt fr ρ)).bind fun ρd=>(evc Γ c ρd).bind fun k=>if k=true then ((ev Γ elt ρd).map W.d).map some else some none
theorem zxu {elt:E} {t:Tg} {it:It'} {nt:Nat} {fr:List Nat} {c:EO}:ev Γ (.comp elt t it nt fr c) ρ=(evW Γ it ρ).bind fun items=>if items.length<=PySem.sizeLine/\tgOk nt t=true then (zcp (zsv Γ elt t nt fr c ρ) items).map W.new else none:=by
 simp only [ev];rfl
theorem yjh {e:E}:evW Γ (.seq e) ρ=(evd Γ e ρ).bind seqD:=by simp only [evW,evd]
theorem ycg {i:Nat}:evW Γ (.seqV i) ρ=(varD ρ i).bind seqD:=by simp only [evW]
theorem yjf:evc Γ .non ρ=some true:=by simp only [evc]
theorem yje {e:E}:evc Γ (.som e) ρ=evb Γ e ρ:=by simp only [evc,evb,evd]
theorem zny {α:Type} {f:D->Option (Option D)} {g:α->D} {h:α->D}:∀ {l:List α},(∀ x∈l,f (g x)=some (some (h x)))->zcp f (l.map g)=some (l.map h)
 | [],_=>rfl
 | x::l,hl=>by
  rw [Zv,Zv];unfold zcp;rw [hl x (.head _)];simp only
  rw [zny fun y hy=>hl y (.tail _ hy)];rfl
theorem zii {α:Type} {elt:E} {t:Tg} {it:It'} {nt:Nat} {fr:List Nat} {c:EO} {l:List α} {g h:α->D} (hI:evW Γ it ρ=some (l.map g)) (hz:l.length<=PySem.sizeLine) (ht:tgOk nt t=true) (hs:∀ x∈l,zsv Γ elt t nt fr c ρ (g x)=some (some (h x))) :
  ev Γ (.comp elt t it nt fr c) ρ=some (.new (l.map h)):=by
 rw [zxu,hI,Yd,if_pos ⟨by rw [Zd];exact hz,ht⟩,zny hs];rfl
end
theorem zyr {i:Nat} {d:D} {ρ:Rho}:zbo (.name i) d ρ=setE ρ i d:=rfl
theorem zyq {is:List Nat} {ds:List D} {ρ:Rho}:zbo (.tup is) (.tup ds) ρ=zch is ds ρ:=rfl
theorem setE_0 {o:Option D} {d:D} {ρ:Rho}:setE (o::ρ) 0 d=some (some d::ρ):=rfl
theorem setE_s {o:Option D} {i:Nat} {d:D} {ρ:Rho}:setE (o::ρ) (i+1) d=(setE ρ i d).map (o :: ·):=by
 unfold setE;by_cases h:i<ρ.length
 ·rw [if_pos h,if_pos (by rw [Zj];omega)];rfl
 ·rw [if_neg h,if_neg (by rw [Zj];omega)];rfl
end DL
namespace DL
section
theorem Br {α β:Type} {o o':Option α} {f f':α->Option β} {y:β} (h1:∀ x,o=some x->o'=some x) (h2:∀ x y,f x=some y->f' x=some y) (h:o.bind f=some y):o'.bind f'=some y:=by
 refine xa (Za.mp h) fun x e1 e2=>?_;rw [h1 x e1,Yd];exact h2 x y e2
theorem By {α β:Type} {o o':Option α} {f:α->β} {y:β} (h1:∀ x,o=some x->o'=some x) (h:o.map f=some y):o'.map f=some y:=by
 refine xa (Zb.mp h) fun x e1 e2=>?_;rw [h1 x e1,Yq,e2]
theorem zjq {α:Type} {c:Prop} [Decidable c] {a b a' b':Option α} {y:α} (h1:a=some y->a'=some y) (h2:b=some y->b'=some y) (h:(if c then a else b)=some y):(if c then a' else b')=some y:=by
 by_cases q:c
 ·rw [if_pos q] at h |-;exact h1 h
 ·rw [if_neg q] at h |-;exact h2 h
theorem zlg {f f':D->Option (Option D)} (h:∀ d y,f d=some y->f' d=some y):∀ {l:List D} {r:List D},zcp f l=some r->zcp f' l=some r
 | [],_,q=>q
 | d::l,r,q=>by
  unfold zcp at q |-;cases e:f d with
  | none=>rw [e] at q;cases q
  | some o=>
   rw [e] at q;rw [h d o e];cases o with
   | none=>exact zlg h q
   | some x=>exact By (fun r=>zlg h) q
variable {Γ Γ':Nat->List D->Option W}
mutual
theorem B9 (h:∀ f ds w,Γ f ds=some w->Γ' f ds=some w):∀ (e:E) (ρ:Rho) (w:W),ev Γ e ρ=some w->ev Γ' e ρ=some w
 | .var i,ρ,w,q=>by simp only [ev] at q |-;exact q
 | .int i,ρ,w,q=>by simp only [ev] at q |-;exact q
 | .bl b,ρ,w,q=>by simp only [ev] at q |-;exact q
 | .non,ρ,w,q=>by simp only [ev] at q |-;exact q
 | .bin o a b,ρ,w,q=>by
  simp only [ev] at q |-;exact Br (fun x=>By (B9 h a ρ)) (fun x y=>Br (fun x=>By (B9 h b ρ)) fun _ _ z=>z) q
 | .neg a,ρ,w,q=>by
  simp only [ev] at q |-;exact By (fun x=>Br (fun x=>By (B9 h a ρ)) fun _ _ z=>z) q
 | .cmp c a b,ρ,w,q=>by
  simp only [ev] at q |-;exact Br (fun x=>By (B9 h a ρ)) (fun x y=>Br (fun x=>By (B9 h b ρ)) fun _ _ z=>z) q
 | .and a b,ρ,w,q=>by
  simp only [ev] at q |-;exact Br (fun x=>Br (fun x=>By (B9 h a ρ)) fun _ _ z=>z) (fun x y=>zjq (B9 h b ρ y) fun z=>z) q
 | .or a b,ρ,w,q=>by
  simp only [ev] at q |-;exact Br (fun x=>Br (fun x=>By (B9 h a ρ)) fun _ _ z=>z) (fun x y=>zjq (fun z=>z) (B9 h b ρ y)) q
 | .not a,ρ,w,q=>by
  simp only [ev] at q |-;exact By (fun x=>Br (fun x=>By (B9 h a ρ)) fun _ _ z=>z) q
 | .ife c a b,ρ,w,q=>by
  simp only [ev] at q |-;exact Br (fun x=>Br (fun x=>By (B9 h c ρ)) fun _ _ z=>z) (fun x y=>zjq (B9 h a ρ y) (B9 h b ρ y)) q
 | .tup l,ρ,w,q=>by
  simp only [ev] at q |-;exact Br (evs_le h l ρ) (fun _ _ z=>z) q
 | .lst l,ρ,w,q=>by
  simp only [ev] at q |-;exact Br (evs_le h l ρ) (fun _ _ z=>z) q
 | .ix a b,ρ,w,q=>by
  simp only [ev] at q |-;exact Br (fun x=>By (B9 h a ρ)) (fun x y=>Br (fun x=>By (B9 h b ρ)) fun _ _ z=>z) q
 | .sl a lo hi,ρ,w,q=>by
  simp only [ev] at q |-;exact Br (fun x=>By (B9 h a ρ)) (fun x y=>Br (evo_le h lo ρ) fun _ _=>Br (evo_le h hi ρ) fun _ _ z=>z) q
 | .call f l,ρ,w,q=>by
  simp only [ev] at q |-;exact Br (evs_le h l ρ) (fun ds y=>h f ds y) q
 | .bi f l,ρ,w,q=>by
  simp only [ev] at q |-;exact Br (evs_le h l ρ) (fun _ _ z=>z) q
 | .isi a t,ρ,w,q=>by
  simp only [ev] at q |-;exact Br (fun x=>By (B9 h a ρ)) (fun _ _ z=>z) q
 | .isx a ys,ρ,w,q=>by
  simp only [ev] at q |-;exact Br (fun x=>By (B9 h a ρ)) (fun _ _ z=>z) q
 | .idx a b,ρ,w,q=>by
  simp only [ev] at q |-;exact Br (fun x=>By (B9 h a ρ)) (fun x y=>Br (fun x=>By (B9 h b ρ)) fun _ _ z=>z) q
 | .fm f l,ρ,w,q=>by
  simp only [ev] at q |-;exact Br (evs_le h l ρ) (fun _ _ z=>z) q
 | .lcp a,ρ,w,q=>by
  simp only [ev] at q |-;exact Br (fun x=>By (B9 h a ρ)) (fun _ _ z=>z) q
 | .comp elt t it nt fr c,ρ,w,q=>by
  simp only [ev] at q |-;refine Br (evW_le h it ρ) (fun items y=>zjq (By fun r=>zlg fun d y=>?_) fun z=>z) q;exact Br (fun _ z=>z) (fun ρd y=>Br (evc_le h c ρd) fun k y=>zjq (By fun x=>By (B9 h elt ρd)) fun z=>z)
theorem evs_le (h:∀ f ds w,Γ f ds=some w->Γ' f ds=some w):∀ (l:Es) (ρ:Rho) (w:List D),evs Γ l ρ=some w->evs Γ' l ρ=some w
 | .nil,ρ,w,q=>by simp only [evs] at q |-;exact q
 | .cons e l,ρ,w,q=>by
  simp only [evs] at q |-;exact Br (fun x=>By (B9 h e ρ)) (fun x y=>By (evs_le h l ρ)) q
theorem evo_le (h:∀ f ds w,Γ f ds=some w->Γ' f ds=some w):∀ (l:EO) (ρ:Rho) (w:Option Int),evo Γ l ρ=some w->evo Γ' l ρ=some w
 | .non,ρ,w,q=>by simp only [evo] at q |-;exact q
 | .som e,ρ,w,q=>by
  simp only [evo] at q |-;exact By (fun x=>Br (fun x=>By (B9 h e ρ)) fun _ _ z=>z) q
theorem evc_le (h:∀ f ds w,Γ f ds=some w->Γ' f ds=some w):∀ (l:EO) (ρ:Rho) (w:Bool),evc Γ l ρ=some w->evc Γ' l ρ=some w
 | .non,ρ,w,q=>by simp only [evc] at q |-;exact q
 | .som e,ρ,w,q=>by
  simp only [evc] at q |-;exact Br (fun x=>By (B9 h e ρ)) (fun _ _ z=>z) q
theorem evW_le (h:∀ f ds w,Γ f ds=some w->Γ' f ds=some w):∀ (l:It') (ρ:Rho) (w:List D),evW Γ l ρ=some w->evW Γ' l ρ=some w
 | .seq e,ρ,w,q=>by
  simp only [evW] at q |-;exact Br (fun x=>By (B9 h e ρ)) (fun _ _ z=>z) q
 | .seqV i,ρ,w,q=>by simp only [evW] at q |-;exact q
 | .range1 a,ρ,w,q=>by
  simp only [evW] at q |-;exact Br (fun x=>Br (fun x=>By (B9 h a ρ)) fun _ _ z=>z) (fun _ _ z=>z) q
 | .range2 a b,ρ,w,q=>by
  simp only [evW] at q |-;exact Br (fun x=>Br (fun x=>By (B9 h a ρ)) fun _ _ z=>z) (fun _ _=>Br (fun x=>Br (fun x=>By (B9 h b ρ)) fun _ _ z=>z) fun _ _ z=>z) q
 | .enum e,ρ,w,q=>by
  simp only [evW] at q |-;exact By (fun x=>Br (fun x=>By (B9 h e ρ)) fun _ _ z=>z) q
end
theorem evI_le (h:∀ f ds w,Γ f ds=some w->Γ' f ds=some w):∀ (l:It') (ρ:RhoS) (w:List D×RhoS),evI Γ l ρ=some w->evI Γ' l ρ=some w
 | .seq e,ρ,w,q=>by
  simp only [evI] at q |-;exact Br (B9 h e (view ρ)) (fun _ _ z=>z) q
 | .seqV i,ρ,w,q=>by simp only [evI] at q |-;exact q
 | .range1 a,ρ,w,q=>by
  simp only [evI] at q |-;exact Br (fun x=>Br (fun x=>By (B9 h a (view ρ))) fun _ _ z=>z) (fun _ _ z=>z) q
 | .range2 a b,ρ,w,q=>by
  simp only [evI] at q |-;exact Br (fun x=>Br (fun x=>By (B9 h a (view ρ))) fun _ _ z=>z) (fun _ _=>Br (fun x=>Br (fun x=>By (B9 h b (view ρ))) fun _ _ z=>z) fun _ _ z=>z) q
 | .enum e,ρ,w,q=>by
  simp only [evI] at q |-;exact Br (B9 h e (view ρ)) (fun _ _ z=>z) q
theorem zlv {c c':RhoS->Option Bool} {b b':RhoS->Option Out} (hc:∀ ρ k,c ρ=some k->c' ρ=some k) (hb:∀ ρ o,b ρ=some o->b' ρ=some o):∀ (n:Nat) (ρ:RhoS) (o:Out),zaa c b n ρ=some o->zaa c' b' n ρ=some o
 | 0,_,_,q=>by cases q
 | n+1,ρ,o,q=>by
  unfold zaa at q |-;cases e:c ρ with
  | none=>rw [e] at q;cases q
  | some k=>
   simp only [e] at q;simp only [hc ρ k e];cases k with
   | false=>exact q
   | true=>
    cases e2:b ρ with
    | none=>simp only [e2] at q;cases q
    | some o2=>
     simp only [e2] at q;simp only [hb ρ o2 e2];cases o2 with
     | rt w=>exact q
     | nx ρ'=>exact zlv hc hb n ρ' o q
theorem zxr {bt:D->RhoS->Option RhoS} {b b':RhoS->Option Out} (hb:∀ ρ o,b ρ=some o->b' ρ=some o):∀ (l:List D) (ρ:RhoS) (o:Out),forN bt b l ρ=some o->forN bt b' l ρ=some o
 | [],_,_,q=>q
 | d::l,ρ,o,q=>by
  unfold forN at q |-;cases e:bt d ρ with
  | none=>rw [e] at q;cases q
  | some ρ1=>
   simp only [e] at q;simp only
   cases e2:b ρ1 with
   | none=>simp only [e2] at q;cases q
   | some o2=>
    simp only [e2] at q;simp only [hb ρ1 o2 e2];cases o2 with
    | rt w=>exact q
    | nx ρ'=>exact zxr hb l ρ' o q
mutual
noncomputable def zwa:S->Bool
 | .tryC _ _ _ _ _=>false
 | .iff _ a b=>noTrys a && noTrys b
 | .whl _ b=>noTrys b
 | .frr _ _ b=>noTrys b
 | _=>true
noncomputable def noTrys:Ss->Bool
 | .nil=>true
 | .cons s l=>zwa s && noTrys l
end
mutual
theorem ex_le (h:∀ f ds w,Γ f ds=some w->Γ' f ds=some w):∀ (s:S) (ρ:RhoS) (o:Out),zwa s=true->ex Γ s ρ=some o->ex Γ' s ρ=some o
 | .asg i e,ρ,o,_,q=>by
  simp only [ex] at q |-;exact Br (B9 h e _) (fun _ _ z=>z) q
 | .unp is e,ρ,o,_,q=>by
  simp only [ex] at q |-;exact Br (B9 h e _) (fun _ _ z=>z) q
 | .par i j a b,ρ,o,_,q=>by
  simp only [ex] at q |-;exact Br (fun x=>By (B9 h a _)) (fun _ _=>Br (fun x=>By (B9 h b _)) fun _ _ z=>z) q
 | .ret e,ρ,o,_,q=>by
  simp only [ex] at q |-;exact By (B9 h e _) q
 | .retV i,ρ,o,_,q=>by simp only [ex] at q |-;exact q
 | .iff c a b,ρ,o,n,q=>by
  simp only [zwa,Zm] at n;simp only [ex,evB] at q |-;exact Br (fun x=>Br (fun x=>By (B9 h c _)) fun _ _ z=>z) (fun _ y=>zjq (exs_le h a ρ y n.1) (exs_le h b ρ y n.2)) q
 | .whl c b,ρ,o,n,q=>by
  simp only [zwa] at n;simp only [ex] at q |-;refine xb (zji q) fun m hm=>?_;refine zcz (zlv (fun ρ k z=>?_) (fun ρ o z=>exs_le h b ρ o n z) m ρ o hm);unfold evB at z |-;exact Br (fun x=>By (B9 h c _)) (fun _ _ z=>z) z
 | .frr t it b,ρ,o,n,q=>by
  simp only [zwa] at n;simp only [ex] at q |-;exact Br (evI_le h it ρ) (fun p y=>zxr (fun ρ o z=>exs_le h b ρ o n z) _ _ _) q
 | .tryC f g l i j,ρ,o,n,q=>by cases n
 | .app i e,ρ,o,_,q=>by
  simp only [ex] at q |-;exact Br (B9 h e _) (fun _ _ z=>z) q
 | .pop i,ρ,o,_,q=>by simp only [ex] at q |-;exact q
 | .clr i,ρ,o,_,q=>by simp only [ex] at q |-;exact q
 | .seti i k e,ρ,o,_,q=>by
  simp only [ex] at q |-;exact Br (B9 h e _) (fun _ _=>Br (fun x=>Br (fun x=>By (B9 h k _)) fun _ _ z=>z) fun _ _ z=>z) q
 | .never,ρ,o,_,q=>by simp only [ex] at q;cases q
theorem exs_le (h:∀ f ds w,Γ f ds=some w->Γ' f ds=some w):∀ (l:Ss) (ρ:RhoS) (o:Out),noTrys l=true->exs Γ l ρ=some o->exs Γ' l ρ=some o
 | .nil,ρ,o,_,q=>by simp only [exs] at q |-;exact q
 | .cons s l,ρ,o,n,q=>by
  simp only [noTrys,Zm] at n;simp only [exs] at q |-;refine Br (fun o z=>ex_le h s ρ o n.1 z) (fun o2 y z=>?_) q;cases o2 with
  | nx ρ'=>exact exs_le h l ρ' y n.2 z
  | rt w=>exact z
end
noncomputable def tab:List (Nat×(List D->Option W))->Nat->List D->Option W
 | [],_=>fun _=>none
 | (k,m)::t,n=>if n=k then m else tab t n
theorem ydv:∀ (T:List (Nat×(List D->Option W))),(∀ p∈T,Γ p.1=p.2)->∀ f ds w,tab T f ds=some w->Γ f ds=some w
 | [],_,_,_,_,q=>by simp only [tab] at q;cases q
 | (k,m)::t,h,f,ds,w,q=>by
  unfold tab at q;by_cases e:f=k
  ·rw [if_pos e] at q;subst e;rw [h (f,m) (.head _)];exact q
  ·rw [if_neg e] at q;exact ydv t (fun p hp=>h p (.tail _ hp)) f ds w q
theorem zcb {b:Ss} {n:Nat} (T:List (Nat×(List D->Option W))) (hT:∀ p∈T,Γ p.1=p.2) (hb:noTrys b=true) (ds:List D) (w:W) (h:run (tab T) b n ds=some w):run Γ b n ds=some w:=by
 unfold run at h |-;exact Br (fun o=>exs_le (ydv T hT) b _ o hb) (fun _ _ z=>z) h
end
theorem cm_lt {a b:Int}:cmpD .lt (.int a) (.int b)=some (decide (a<b)):=rfl
theorem cm_le {a b:Int}:cmpD .le (.int a) (.int b)=some (decide (a<=b)):=rfl
theorem cm_gt {a b:Int}:cmpD .gt (.int a) (.int b)=some (decide (b<a)):=rfl
theorem cm_ge {a b:Int}:cmpD .ge (.int a) (.int b)=some (decide (b<=a)):=rfl
theorem cm_eq {a b:Int}:cmpD .eq (.int a) (.int b)=some (decide (a=b)):=rfl
theorem cm_ne {a b:Int}:cmpD .ne (.int a) (.int b)=some (!decide (a=b)):=rfl
theorem cm_eqB {a b:Bool}:cmpD .eq (.bl a) (.bl b)=some (a == b):=rfl
theorem cm_neB {a b:Bool}:cmpD .ne (.bl a) (.bl b)=some (!(a == b)):=rfl
theorem cm_eqT {a b:List D}:cmpD .eq (.tup a) (.tup b)=if (dOkL 49 a && dOkL 49 b)=true then some (eqL a b) else none:=rfl
theorem cm_eqL {a b:List D}:cmpD .eq (.lst a) (.lst b)=if (dOkL 49 a && dOkL 49 b)=true then some (eqL a b) else none:=rfl
theorem cm_in {x:D} {l:List D}:cmpD .isin x (.lst l)=if (dOk 50 x && dOkL 49 l)=true then some (l.any fun y=>eqD y x) else none:=rfl
theorem yfl {x:D} {l:List D}:cmpD .notin x (.lst l)=if (dOk 50 x && dOkL 49 l)=true then some (!(l.any fun y=>eqD y x)) else none:=by
 show Option.map not (if _ then _ else _)=_;split <;> rfl
theorem cm_isN {a:D}:cmpD .isN a .non=some (znr a):=rfl
theorem yjx {a:D}:cmpD .notN a .non=some (!znr a):=rfl
end DL
namespace Sf
noncomputable abbrev gc (a b:Int):Int:=((Int.gcd a b:Nat):Int)
theorem gc_nn (a b:Int):0<=gc a b:=K3 _
theorem zif {a b:Int} (h:b≠0):0<gc a b:=Int.natCast_pos.mpr (Int.gcd_pos_of_ne_zero_right a h)
theorem zpl {g s:Int}:gc s (g%s)=gc g s:=by
 have e:g=g%s+s*(g/s):=by have:=Int.emod_add_mul_ediv g s;omega
 show ((Int.gcd s (g%s):Nat):Int)=((Int.gcd g s:Nat):Int);have h:Int.gcd s g=Int.gcd s (g%s):=by
  conv=>lhs;rw [e]
  rw [Int.gcd_add_mul_left_right]
 rw [Int.gcd_comm g s,h]
theorem zky {g:Int} (h:0<=g):gc g 0=g:=by
 show ((Int.gcd g 0:Nat):Int)=g;rw [Int.gcd_zero];omega
theorem yez (a b:Int):gc (if a<0 then -a else a) (if b<0 then -b else b)=gc a b:=by
 show ((Int.gcd _ _:Nat):Int)=_;split <;> split <;> simp only [Int.neg_gcd,Int.gcd_neg]
theorem ztu {p q:Int} (h:∀ c,c∣p->c∣q->c∣1):Int.gcd p q=1:=W8.mpr h
theorem zes {k m n:Int} (h:Int.gcd k m=1) (d:k∣m*n):k∣n:=by
 have e:=Qu (n:=k) (m:=m) (k:=n) h;have h1:Int.gcd k (m*n)=k.natAbs:=Int.gcd_eq_natAbs_left d;rw [h1] at e;exact Int.gcd_eq_natAbs_left_iff_dvd.mp e.symm
theorem zaj {a b:Int} (h:a∣b) (hb:b≠0):a.natAbs<=b.natAbs:=
 Nat.le_of_dvd (by omega) (Int.natAbs_dvd_natAbs.mpr h)
theorem zkz {a b:Int} (h:0<gc a b):∃ x y:Int,a=gc a b*x/\b=gc a b*y/\Int.gcd x y=1:=by
 refine xb (Ko a b) fun x hx=>?_;refine xb (Qd a b) fun y hy=>?_;refine⟨x,y,hx,hy,?_⟩
 have h2:Int.gcd a b=(gc a b).natAbs*Int.gcd x y:=by
  have e:=Int.gcd_mul_left (gc a b) x y;have e1:gc a b*x=a:=hx.symm;have e2:gc a b*y=b:=hy.symm;rw [e1,e2] at e;exact e
 have h3:(gc a b).natAbs=Int.gcd a b:=Yt _;rw [h3] at h2;have h4:0<Int.gcd a b:=Int.natCast_pos.mp h;exact (Nat.eq_of_mul_eq_mul_left h4 (by rw [Nat.mul_one];exact h2)).symm
structure Fra (p q:Int):Prop where
 pos:0<q
 co:Int.gcd p q=1
theorem Fra.cross_dvd {p q N B:Int} (f:Fra p q) (h:p*B=N*q):p∣N/\q∣B:=by
 constructor
 ·refine zes f.co ⟨B,?_⟩;rw [h,Q7]
 ·refine zes (k:=q) (m:=p) (by rw [Int.gcd_comm];exact f.co) ⟨N,?_⟩;rw [h,Q7]
theorem Fra.cross_le {p q N B:Int} (f:Fra p q) (hB:B≠0) (h:p*B=N*q):p.natAbs<=N.natAbs/\q.natAbs<=B.natAbs:=by
 refine xg (f.cross_dvd h) fun h1 h2=>?_;refine⟨?_,zaj h2 hB⟩
 by_cases hN:N=0
 ·subst hN;rw [Jw] at h;rcases Jx.mp h with e | e
  ·rw [e];exact Zh _
  ·exact absurd e hB
 ·exact zaj h1 hN
theorem Fra.uniq {p q r s:Int} (f:Fra p q) (g:Fra r s) (h:p*s=r*q):p=r/\q=s:=by
 have h1:=(f.cross_dvd h).2;have h2:=(g.cross_dvd h.symm).2;have e:q=s:=Int.dvd_antisymm (Ws f.pos) (Ws g.pos) h1 h2;subst e;exact⟨Kx (by have:=f.pos;omega) h,rfl⟩
noncomputable def by_ (t b:Int):Int:=if b<0 then -(gc t b) else gc t b
noncomputable def low1 (t b:Int):Int:=t.fdiv (by_ t b)
noncomputable def low2 (t b:Int):Int:=b.fdiv (by_ t b)
theorem by_ne {t b:Int} (h:b≠0):by_ t b≠0:=by
 have:=zif (a:=t) h
 unfold by_;split <;> omega
theorem znn {t b:Int} (h:b≠0):t=by_ t b*low1 t b/\b=by_ t b*low2 t b/\Fra (low1 t b) (low2 t b):=by
 have hg:=zif (a:=t) h;refine xc (zkz hg) fun x y hx hy hc=>?_;have hn:=by_ne (t:=t) h;have key:∃ z:Int,(z=1\/z = -1)/\by_ t b=gc t b*z/\0<y*z:=by
  by_cases hb:b<0
  ·refine⟨-1,.inr rfl,?_,?_⟩
   ·unfold by_;rw [if_pos hb];omega
   ·have:y<0:=by
     rw [hy] at hb;by_cases hh:y<0
     ·exact hh
     ·exact absurd hb (J2.mpr (Q5 (Ws hg) (J2.mp hh)))
    omega
  ·refine⟨1,.inl rfl,?_,?_⟩
   ·unfold by_;rw [if_neg hb];omega
   ·have:0<y:=by
     by_cases hh:0<y
     ·exact hh
     ·have:=W0 (Ws hg) (J2.mp hh)
      rw [<- hy] at this;omega
    omega
 refine xh key fun z hz hbz hyz=>?_;clear key
 have zz:z*z=1:=by rcases hz with e | e <;> subst e <;> decide
 have e1:t=by_ t b*(x*z):=by
  rw [hbz];conv=>lhs;rw [hx]
  grind
 have e2:b=by_ t b*(y*z):=by
  rw [hbz];conv=>lhs;rw [hy]
  grind
 have l1:low1 t b=x*z:=by
  unfold low1;conv=>lhs;arg 1;rw [e1]
  exact Ye _ hn
 have l2:low2 t b=y*z:=by
  unfold low2;conv=>lhs;arg 1;rw [e2]
  exact Ye _ hn
 rw [l1,l2];refine⟨e1,e2,hyz,?_⟩
 rcases hz with e | e <;> subst e
 ·rw [Vq,Vq];exact hc
 ·have e3:x * -1 = -x:=by omega
  have e4:y * -1 = -y:=by omega
  rw [e3,e4,Int.neg_gcd,Int.gcd_neg];exact hc
theorem zwx {t b:Int} (h:b≠0):Fra (low1 t b) (low2 t b):=(znn h).2.2
theorem zwy {t b:Int} (h:b≠0):low1 t b*b=t*low2 t b:=by
 refine xj (znn (t:=t) h) fun e1 e2 _=>?_;generalize by_ t b=g at e1 e2;generalize low1 t b=x at e1 e2 |-;generalize low2 t b=y at e1 e2 |-;subst e1;subst e2;grind
noncomputable def addT (a b c d:Int):Int:=a*(d.fdiv (gc b d))+c*(b.fdiv (gc b d))
noncomputable def add1 (a b c d:Int):Int:=(addT a b c d).fdiv (gc (addT a b c d) (gc b d))
noncomputable def add2 (a b c d:Int):Int:=b.fdiv (gc b d)*d.fdiv (gc (addT a b c d) (gc b d))
theorem add_ok {a b c d:Int} (f:Fra a b) (g:Fra c d):Fra (add1 a b c d) (add2 a b c d)/\add1 a b c d*(b*d)=(a*d+c*b)*add2 a b c d:=by
 have hb:=f.pos;have hd:=g.pos;have hs:0<gc b d:=zif (by omega);refine xc (zkz hs) fun b' d' eb ed co=>?_;have hr:0<gc (addT a b c d) (gc b d):=zif (by omega);refine xc (zkz hr) fun t' s' et es co2=>?_;have hne:gc b d≠0:=by omega
 have hre:gc (addT a b c d) (gc b d)≠0:=by omega
 have q1:b.fdiv (gc b d)=b':=by
  conv=>lhs;arg 1;rw [eb]
  exact Ye _ hne
 have q2:d.fdiv (gc b d)=d':=by
  conv=>lhs;arg 1;rw [ed]
  exact Ye _ hne
 have hT:addT a b c d=a*d'+c*b':=by unfold addT;rw [q1,q2]
 have q3:add1 a b c d=t':=by
  unfold add1;conv=>lhs;arg 1;rw [et]
  exact Ye _ hre
 have ed2:d=gc (addT a b c d) (gc b d)*(s'*d'):=by
  conv=>lhs;rw [ed]
  rw [<- Up];conv=>lhs;arg 1;rw [es]
 have q4:d.fdiv (gc (addT a b c d) (gc b d))=s'*d':=by
  conv=>lhs;arg 1;rw [ed2]
  exact Ye _ hre
 have q5:add2 a b c d=b'*(s'*d'):=by unfold add2;rw [q1,q4]
 rw [q3,q5];generalize gc (addT a b c d) (gc b d)=r at *;generalize gc b d=s at *;rw [hT] at et;have pb:0<b':=by
  by_cases hh:0<b'
  ·exact hh
  ·have:=W0 (Ws hs) (J2.mp hh);omega
 have pd:0<d':=by
  by_cases hh:0<d'
  ·exact hh
  ·have:=W0 (Ws hs) (J2.mp hh);omega
 have ps:0<s':=by
  by_cases hh:0<s'
  ·exact hh
  ·have:=W0 (Ws hr) (J2.mp hh);omega
 have ca:Int.gcd a b'=1:=ztu fun k h1 h2=>W8.mp f.co k h1 (by rw [eb];exact Q8 h2)
 have cc:Int.gcd c d'=1:=ztu fun k h1 h2=>W8.mp g.co k h1 (by rw [ed];exact Q8 h2)
 have dt:t'∣a*d'+c*b':=⟨r,by rw [et,Q7]⟩;have ctb:Int.gcd t' b'=1:=ztu fun k h1 h2=>by
  have k1:k∣a*d':=(Int.dvd_add_left (Q8 h2)).mp (Qg h1 dt);have kd:Int.gcd k d'=1:=ztu fun j j1 j2=>W8.mp co j (Qg j1 h2) j2
  have k2:k∣a:=zes kd (by rw [Q7];exact k1);exact W8.mp ca k k2 h2
 have ctd:Int.gcd t' d'=1:=ztu fun k h1 h2=>by
  have k1:k∣c*b':=(Int.dvd_add_right (Q8 h2)).mp (Qg h1 dt);have kd:Int.gcd k b'=1:=ztu fun j j1 j2=>W8.mp co j j2 (Qg j1 h2)
  have k2:k∣c:=zes kd (by rw [Q7];exact k1);exact W8.mp cc k k2 h2
 refine⟨⟨Ks pb (Ks ps pd),?_⟩,?_⟩
 ·rw [Qu ctb,Qu co2];exact ctd
 ·subst eb;subst ed;subst es;have:a*(r*s'*d')+c*(r*s'*b')=r*s'*(r*t'):=by rw [<- et];grind
  rw [this];grind
end Sf
namespace Sf
theorem zcu (x:Rat):Fra x.num (x.den:Int):=⟨by have:=x.den_nz;omega,by
 have:=x.reduced
 show Nat.gcd x.num.natAbs ((x.den:Int)).natAbs=1;exact this⟩
theorem rat_of {p q:Int} (f:Fra p q):(Rat.divInt p q).num=p/\((Rat.divInt p q).den:Int)=q:=by
 have hq:=f.pos;refine (zcu (Rat.divInt p q)).uniq f ?_;have e:Rat.divInt (Rat.divInt p q).num ((Rat.divInt p q).den:Int)=Rat.divInt p q:=Wl _;exact (Vy (by have:=(Rat.divInt p q).den_nz;omega) (by omega)).mp e
theorem zvm {x:Rat} {p q:Int} (hq:q≠0):x=Rat.divInt p q↔x.num*q=p*(x.den:Int):=by
 conv=>lhs;lhs;rw [<- Wl x]
 exact Vy (by have:=x.den_nz;omega) hq
theorem yil {t b:Int} (h:b≠0):(Rat.divInt t b).num=low1 t b/\((Rat.divInt t b).den:Int)=low2 t b:=
 (zcu _).uniq (zwx h) (by
  have e:=(zvm (x:=Rat.divInt t b) h).mp rfl;have c:=zwy (t:=t) h;have f:=(zwx (t:=t) h).pos;apply Kx h
  grind)
theorem ykt (x y:Rat):(x+y).num=add1 x.num x.den y.num y.den/\((x+y).den:Int)=add2 x.num x.den y.num y.den:=by
 refine xg (add_ok (zcu x) (zcu y)) fun f c=>?_;refine (zcu _).uniq f ?_;have hx:(x.den:Int)≠0:=by have:=x.den_nz;omega
 have hy:(y.den:Int)≠0:=by have:=y.den_nz;omega
 have e:x+y=Rat.divInt (x.num*y.den+y.num*x.den) (x.den*y.den):=by
  conv=>lhs;rw [<- Wl x,<- Wl y]
  exact Jq _ _ hx hy
 have e2:=(zvm (x:=x+y) (Yx hx hy)).mp e;apply Kx (Yx hx hy)
 grind
theorem zwg (x y:Rat):x*y=Rat.divInt (x.num*y.num) (x.den*y.den):=by
 conv=>lhs;rw [<- Wl x,<- Wl y]
 exact Rat.divInt_mul_divInt _ _
structure Sz (n:Nat) (x:Rat):Prop where
 t:x.num.natAbs<2^n
 b:x.den<2^n
theorem zdj {m n:Nat} (h:m<=n):2^m<=2^n:=Y8 (by decide) h
theorem Sz.mono {m n:Nat} {x:Rat} (h:Sz m x) (k:m<=n):Sz n x:=⟨Zp h.t (zdj k),Zp h.b (zdj k)⟩
theorem zhv {a b m n:Nat} (h:a<2^m) (k:b<2^n):a*b<2^(m+n):=by
 rw [Nat.pow_add];exact Nat.mul_lt_mul'' h k
theorem zdv {x:Rat} {p q:Int} {n:Nat} (hq:q≠0) (e:x=Rat.divInt p q) (hp:p.natAbs<2^n) (hb:q.natAbs<2^n):Sz n x:=by
 refine xg ((zcu x).cross_le hq ((zvm hq).mp e)) fun a b=>?_;exact⟨Kf a hp,by have:=b;omega⟩
theorem Sz.mul {m n:Nat} {x y:Rat} (hx:Sz m x) (hy:Sz n y):Sz (m+n) (x*y):=by
 have a:(x.den:Int)≠0:=by have:=x.den_nz;omega
 have b:(y.den:Int)≠0:=by have:=y.den_nz;omega
 refine zdv (Yx a b) (zwg x y) ?_ ?_
 ·rw [Q4];exact zhv hx.t hy.t
 ·rw [Q4];exact zhv hx.b hy.b
theorem Sz.add {m n:Nat} {x y:Rat} (hx:Sz m x) (hy:Sz n y):Sz (m+n+1) (x+y):=by
 have a:(x.den:Int)≠0:=by have:=x.den_nz;omega
 have b:(y.den:Int)≠0:=by have:=y.den_nz;omega
 have e:x+y=Rat.divInt (x.num*y.den+y.num*x.den) (x.den*y.den):=by
  conv=>lhs;rw [<- Wl x,<- Wl y]
  exact Jq _ _ a b
 have t1:=zhv hx.t hy.b;have t2:=zhv hy.t hx.b;rw [U0 n m] at t2;have t3:=zhv hx.b hy.b;have p2:2^(m+n+1)=2^(m+n)+2^(m+n):=by rw [Jt];omega
 refine zdv (Yx a b) e ?_ ?_
 ·have h1:=Bm (x.num*y.den) (y.num*x.den);rw [Q4,Q4,Yt,Yt] at h1;omega
 ·rw [Q4,Yt,Yt];omega
theorem Sz.neg {n:Nat} {x:Rat} (hx:Sz n x):Sz n (-x):=⟨by show (-x.num).natAbs<_;rw [Int.natAbs_neg];exact hx.t,hx.b⟩
theorem Sz.sub {m n:Nat} {x y:Rat} (hx:Sz m x) (hy:Sz n y):Sz (m+n+1) (x-y):=by
 rw [G3];exact hx.add hy.neg
theorem zuv {t b:Int} {n:Nat} (h:b≠0) (ht:t.natAbs<2^n) (hb:b.natAbs<2^n):Sz n (Rat.divInt t b):=zdv h rfl ht hb
end Sf
namespace DL
noncomputable def zey:Ss:=(.cons (.asg 2 (.bi .abs (.cons (.var 0) .nil))) (.cons (.asg 3 (.bi .abs (.cons (.var 1) .nil))) (.cons (.whl (.cmp .ne (.var 3) (.int 0)) (.cons (.asg 4 (.bin .mod (.var 2) (.var 3))) (.cons (.asg 2 (.var 3)) (.cons (.asg 3 (.var 4)) .nil)))) (.cons (.retV 2) .nil))))
noncomputable def zlr:Ss:=(.cons (.iff (.cmp .eq (.var 1) (.int 0)) (.cons .never .nil) .nil) (.cons (.asg 2 (.call 0 (.cons (.var 0) (.cons (.var 1) .nil)))) (.cons (.iff (.cmp .lt (.var 1) (.int 0)) (.cons (.asg 2 (.neg (.var 2))) .nil) .nil) (.cons (.ret (.tup (.cons (.bin .fdiv (.var 0) (.var 2)) (.cons (.bin .fdiv (.var 1) (.var 2)) .nil)))) .nil))))
noncomputable def zbu:Ss:=(.cons (.iff (.cmp .lt (.var 1) (.bi .len (.cons (.var 0) .nil))) (.cons (.ret (.ix (.var 0) (.var 1))) .nil) .nil) (.cons (.ret (.int 0)) .nil))
noncomputable def zcx:Ss:=(.cons (.ret (.and (.isi (.var 0) .int) (.not (.isi (.var 0) .bool)))) .nil)
noncomputable def zsj:Ss:=(.cons (.asg 2 (.call 0 (.cons (.ix (.var 0) (.int 1)) (.cons (.ix (.var 1) (.int 1)) .nil)))) (.cons (.asg 3 (.bin .add (.bin .mul (.ix (.var 0) (.int 0)) (.bin .fdiv (.ix (.var 1) (.int 1)) (.var 2))) (.bin .mul (.ix (.var 1) (.int 0)) (.bin .fdiv (.ix (.var 0) (.int 1)) (.var 2))))) (.cons (.asg 4 (.call 0 (.cons (.var 3) (.cons (.var 2) .nil)))) (.cons (.ret (.tup (.cons (.bin .fdiv (.var 3) (.var 4)) (.cons (.bin .mul (.bin .fdiv (.ix (.var 0) (.int 1)) (.var 2)) (.bin .fdiv (.ix (.var 1) (.int 1)) (.var 4))) .nil)))) .nil))))
noncomputable def zls:Ss:=(.cons (.ret (.call 9 (.cons (.var 0) (.cons (.tup (.cons (.neg (.ix (.var 1) (.int 0))) (.cons (.ix (.var 1) (.int 1)) .nil))) .nil)))) .nil)
noncomputable def zlq:Ss:=(.cons (.ret (.call 1 (.cons (.bin .mul (.ix (.var 0) (.int 0)) (.ix (.var 1) (.int 0))) (.cons (.bin .mul (.ix (.var 0) (.int 1)) (.ix (.var 1) (.int 1))) .nil)))) .nil)
noncomputable def zbt:Ss:=(.cons (.asg 0 (.bi .abs (.cons (.var 0) .nil))) (.cons (.asg 1 (.bi .abs (.cons (.var 1) .nil))) (.cons (.whl (.cmp .gt (.var 1) (.int 0)) (.cons (.par 0 1 (.var 1) (.bin .mod (.var 0) (.var 1))) .nil)) (.cons (.retV 0) .nil))))
noncomputable def zci:Ss:=(.cons (.asg 2 (.call 12 (.cons (.var 0) (.cons (.var 1) .nil)))) (.cons (.iff (.cmp .lt (.var 1) (.int 0)) (.cons (.asg 2 (.bin .sub (.int 0) (.var 2))) .nil) .nil) (.cons (.ret (.tup (.cons (.bin .fdiv (.var 0) (.var 2)) (.cons (.bin .fdiv (.var 1) (.var 2)) .nil)))) .nil)))
noncomputable def zar:Ss:=(.cons (.iff (.or (.not (.isi (.var 0) .tuple)) (.or (.cmp .ne (.bi .len (.cons (.var 0) .nil)) (.int 2)) (.or (.not (.call 3 (.cons (.ix (.var 0) (.int 0)) .nil))) (.not (.call 3 (.cons (.ix (.var 0) (.int 1)) .nil)))))) (.cons (.ret (.bl false)) .nil) .nil) (.cons (.ret (.and (.cmp .gt (.ix (.var 0) (.int 1)) (.int 0)) (.cmp .eq (.call 12 (.cons (.ix (.var 0) (.int 0)) (.cons (.ix (.var 0) (.int 1)) .nil))) (.int 1)))) .nil))
noncomputable def zbg:Ss:=(.cons (.asg 2 (.int 0)) (.cons (.iff (.cmp .lt (.bin .add (.int 1) (.bin .mod (.bin .fdiv (.var 1) (.int 8)) (.int 62))) (.bi .len (.cons (.var 0) .nil))) (.cons (.asg 2 (.bin .fdiv (.ix (.var 0) (.bin .add (.int 1) (.bin .mod (.bin .fdiv (.var 1) (.int 8)) (.int 62)))) (.bin .pow (.int 10) (.int 64)))) .nil) .nil) (.cons (.frr (.name 3) (.range1 (.bin .mod (.var 1) (.int 8))) (.cons (.asg 2 (.bin .fdiv (.var 2) (.int 2147483587))) .nil)) (.cons (.retV 2) .nil))))
noncomputable def zae:Ss:=(.cons (.asg 2 (.int 0)) (.cons (.iff (.cmp .gt (.bi .len (.cons (.var 0) .nil)) (.int 0)) (.cons (.asg 2 (.ix (.var 0) (.int 0))) .nil) .nil) (.cons (.iff (.and (.cmp .eq (.bin .mod (.bin .fdiv (.var 2) (.bin .pow (.int 10) (.int 6))) (.int 2)) (.int 1)) (.cmp .ne (.call 28 (.cons (.var 0) (.cons (.var 1) .nil))) (.int 0))) (.cons (.ret (.bin .mod (.call 28 (.cons (.var 0) (.cons (.var 1) .nil))) (.int 2147483587))) .nil) .nil) (.cons (.iff (.cmp .gt (.bi .len (.cons (.var 0) .nil)) (.int 0)) (.cons (.asg 2 (.ix (.var 0) (.bin .mod (.var 1) (.bi .min (.cons (.int 63) (.cons (.bi .len (.cons (.var 0) .nil)) .nil)))))) .nil) .nil) (.cons (.asg 3 (.bin .add (.bin .mod (.var 2) (.bin .pow (.int 10) (.int 18))) (.bin .mul (.int 48271) (.bin .add (.var 1) (.int 1))))) (.cons (.asg 3 (.bin .add (.bin .mod (.bin .mul (.var 3) (.var 3)) (.int 2147483629)) (.bin .mul (.int 69621) (.var 1)))) (.cons (.ret (.bin .mod (.bin .mul (.var 3) (.var 3)) (.int 2147483587))) .nil)))))))
noncomputable def zaw:Ss:=(.cons (.unp [1,2] (.var 0)) (.cons (.ret (.tup (.cons (.bin .mul (.ix (.var 1) (.int 0)) (.ix (.var 2) (.int 1))) (.cons (.bin .mul (.ix (.var 2) (.int 0)) (.ix (.var 1) (.int 1))) (.cons (.bin .mul (.ix (.var 1) (.int 1)) (.ix (.var 2) (.int 1))) .nil))))) .nil))
noncomputable def zaz:Ss:=(.cons (.asg 3 (.bin .mul (.ix (.var 0) (.int 0)) (.bin .sub (.bin .mul (.ix (.var 1) (.int 1)) (.ix (.var 2) (.int 2))) (.bin .mul (.ix (.var 2) (.int 1)) (.ix (.var 1) (.int 2)))))) (.cons (.asg 3 (.bin .sub (.var 3) (.bin .mul (.ix (.var 0) (.int 1)) (.bin .sub (.bin .mul (.ix (.var 1) (.int 0)) (.ix (.var 2) (.int 2))) (.bin .mul (.ix (.var 2) (.int 0)) (.ix (.var 1) (.int 2))))))) (.cons (.ret (.bin .add (.var 3) (.bin .mul (.ix (.var 0) (.int 2)) (.bin .sub (.bin .mul (.ix (.var 1) (.int 0)) (.ix (.var 2) (.int 1))) (.bin .mul (.ix (.var 2) (.int 0)) (.ix (.var 1) (.int 1))))))) .nil)))
noncomputable def zbj:Ss:=(.cons (.iff (.cmp .ne (.bin .mul (.ix (.var 0) (.int 0)) (.ix (.var 1) (.int 2))) (.bin .mul (.ix (.var 1) (.int 0)) (.ix (.var 0) (.int 2)))) (.cons (.ret (.cmp .lt (.bin .mul (.ix (.var 0) (.int 0)) (.ix (.var 1) (.int 2))) (.bin .mul (.ix (.var 1) (.int 0)) (.ix (.var 0) (.int 2))))) .nil) .nil) (.cons (.ret (.cmp .lt (.bin .mul (.ix (.var 0) (.int 1)) (.ix (.var 1) (.int 2))) (.bin .mul (.ix (.var 1) (.int 1)) (.ix (.var 0) (.int 2))))) .nil))
noncomputable def zal:Ss:=(.cons (.iff (.or (.not (.isi (.var 0) .list)) (.cmp .lt (.bi .len (.cons (.var 0) .nil)) (.int 3))) (.cons (.ret (.bl false)) .nil) .nil) (.cons (.frr (.name 1) (.seqV 0) (.cons (.iff (.or (.not (.isi (.var 1) .tuple)) (.cmp .ne (.bi .len (.cons (.var 1) .nil)) (.int 2))) (.cons (.ret (.bl false)) .nil) .nil) (.cons (.iff (.or (.not (.call 14 (.cons (.ix (.var 1) (.int 0)) .nil))) (.not (.call 14 (.cons (.ix (.var 1) (.int 1)) .nil)))) (.cons (.ret (.bl false)) .nil) .nil) .nil))) (.cons (.asg 2 (.comp (.call 30 (.cons (.var 1) .nil)) (.name 1) (.seqV 0) 2 [] .non)) (.cons (.frr (.name 3) (.range2 (.int 1) (.bi .len (.cons (.var 2) .nil))) (.cons (.iff (.not (.call 32 (.cons (.ix (.var 2) (.int 0)) (.cons (.ix (.var 2) (.var 3)) .nil)))) (.cons (.ret (.bl false)) .nil) .nil) .nil)) (.cons (.frr (.name 3) (.range1 (.bi .len (.cons (.var 2) .nil))) (.cons (.frr (.name 4) (.seqV 2) (.cons (.iff (.and (.cmp .ne (.var 4) (.ix (.var 2) (.var 3))) (.cmp .ne (.var 4) (.ix (.var 2) (.bin .sub (.var 3) (.int 1))))) (.cons (.iff (.cmp .le (.call 31 (.cons (.ix (.var 2) (.bin .sub (.var 3) (.int 1))) (.cons (.ix (.var 2) (.var 3)) (.cons (.var 4) .nil)))) (.int 0)) (.cons (.ret (.bl false)) .nil) .nil) .nil) .nil) .nil)) .nil)) (.cons (.ret (.bl true)) .nil))))))
noncomputable def zbv:Ss:=(.cons (.ret (.comp (.call 42 (.cons (.var 1) (.cons (.var 2) .nil))) (.tup [1,2]) (.seq (.call 41 (.cons (.var 0) .nil))) 3 [] .non)) .nil)
noncomputable def zis:Ss:=(.cons (.ret (.fm .zip (.cons (.var 0) (.cons (.bin .add (.sl (.var 0) (.som (.int 1)) .non) (.sl (.var 0) .non (.som (.int 1)))) .nil)))) .nil)
noncomputable def zat:Ss:=(.cons (.asg 2 (.call 10 (.cons (.ix (.var 0) (.int 1)) (.cons (.ix (.var 1) (.int 1)) .nil)))) (.cons (.asg 3 (.call 10 (.cons (.ix (.var 1) (.int 0)) (.cons (.ix (.var 0) (.int 0)) .nil)))) (.cons (.asg 4 (.call 9 (.cons (.call 11 (.cons (.var 2) (.cons (.ix (.var 0) (.int 0)) .nil))) (.cons (.call 11 (.cons (.var 3) (.cons (.ix (.var 0) (.int 1)) .nil))) .nil)))) (.cons (.ret (.call 43 (.cons (.tup (.cons (.var 2) (.cons (.var 3) (.cons (.var 4) .nil)))) .nil))) .nil))))
noncomputable def zak:Ss:=(.cons (.asg 1 (.int 1)) (.cons (.frr (.name 2) (.seqV 0) (.cons (.asg 1 (.bin .mul (.var 1) (.ix (.var 2) (.int 1)))) .nil)) (.cons (.asg 3 (.comp (.bin .mul (.ix (.var 1) (.int 0)) (.bin .fdiv (.var 2) (.ix (.var 1) (.int 1)))) (.name 1) (.seqV 0) 2 [1] .non)) (.cons (.asg 4 (.int 0)) (.cons (.frr (.name 5) (.seqV 3) (.cons (.asg 4 (.call 0 (.cons (.var 4) (.cons (.var 5) .nil)))) .nil)) (.cons (.ret (.fm .tupl (.cons (.comp (.bin .fdiv (.var 1) (.var 2)) (.name 1) (.seqV 3) 2 [4] .non) .nil))) .nil))))))
noncomputable def zbq:Ss:=(.cons (.asg 3 (.bin .mod (.call 29 (.cons (.var 0) (.cons (.var 1) .nil))) (.int 4))) (.cons (.asg 4 (.lst .nil)) (.cons (.frr (.name 5) (.range1 (.bin .add (.int 3) (.bin .mod (.call 29 (.cons (.var 0) (.cons (.bin .add (.var 1) (.int 1)) .nil))) (.bin .sub (.var 2) (.int 2))))) (.cons (.asg 6 (.call 29 (.cons (.var 0) (.cons (.bin .add (.bin .add (.var 1) (.int 2)) (.var 5)) .nil)))) (.cons (.asg 7 (.tup (.cons (.bin .sub (.bin .mod (.var 6) (.int 7)) (.int 3)) (.cons (.bin .sub (.bin .mod (.bin .fdiv (.var 6) (.int 7)) (.int 7)) (.int 3)) .nil)))) (.cons (.iff (.cmp .eq (.var 3) (.int 1)) (.cons (.asg 7 (.tup (.cons (.bin .sub (.bin .mod (.var 6) (.int 2001)) (.int 1000)) (.cons (.bin .sub (.bin .mod (.bin .fdiv (.var 6) (.int 2001)) (.int 2001)) (.int 1000)) .nil)))) .nil) .nil) (.cons (.iff (.cmp .eq (.var 3) (.int 2)) (.cons (.asg 7 (.tup (.cons (.bin .mod (.var 6) (.int 3)) (.cons (.bin .mod (.bin .fdiv (.var 6) (.int 3)) (.int 3)) .nil)))) .nil) .nil) (.cons (.app 4 (.var 7)) .nil)))))) (.cons (.unp [8,9] (.ix (.var 4) (.int 0))) (.cons (.seti 4 (.neg (.int 2)) (.tup (.cons (.bin .add (.var 8) (.int 1)) (.cons (.bin .add (.var 9) (.bin .mod (.ix (.ix (.var 4) (.neg (.int 2))) (.int 1)) (.int 2))) .nil)))) (.cons (.seti 4 (.neg (.int 1)) (.tup (.cons (.bin .sub (.var 8) (.bin .mod (.ix (.ix (.var 4) (.neg (.int 1))) (.int 0)) (.int 2))) (.cons (.bin .add (.bin .add (.var 9) (.int 1)) (.bin .mod (.ix (.ix (.var 4) (.neg (.int 1))) (.int 1)) (.int 3))) .nil)))) (.cons (.retV 4) .nil)))))))
noncomputable def zau:Ss:=(.cons (.asg 3 (.bin .mul (.bin .sub (.ix (.var 1) (.int 0)) (.ix (.var 0) (.int 0))) (.bin .sub (.ix (.var 2) (.int 1)) (.ix (.var 0) (.int 1))))) (.cons (.ret (.bin .sub (.var 3) (.bin .mul (.bin .sub (.ix (.var 1) (.int 1)) (.ix (.var 0) (.int 1))) (.bin .sub (.ix (.var 2) (.int 0)) (.ix (.var 0) (.int 0)))))) .nil))
noncomputable def zav:Ss:=(.cons (.asg 1 (.lst .nil)) (.cons (.frr (.name 2) (.seq (.lst (.cons (.fm .ss (.cons (.var 0) .nil)) (.cons (.fm .rev (.cons (.fm .ss (.cons (.var 0) .nil)) .nil)) .nil)))) (.cons (.asg 3 (.lst .nil)) (.cons (.frr (.name 4) (.seqV 2) (.cons (.whl (.and (.cmp .gt (.bi .len (.cons (.var 3) .nil)) (.int 1)) (.cmp .le (.call 45 (.cons (.ix (.var 3) (.neg (.int 2))) (.cons (.ix (.var 3) (.neg (.int 1))) (.cons (.var 4) .nil)))) (.int 0))) (.cons (.pop 3) .nil)) (.cons (.app 3 (.var 4)) .nil))) (.cons (.asg 1 (.bin .add (.var 1) (.sl (.var 3) .non (.som (.neg (.int 1)))))) .nil)))) (.cons (.retV 1) .nil)))
noncomputable def B8:Ss:=(.cons (.asg 3 (.call 46 (.cons (.call 34 (.cons (.var 0) (.cons (.var 1) (.cons (.var 2) .nil)))) .nil))) (.cons (.asg 4 (.call 29 (.cons (.var 0) (.cons (.bin .add (.var 1) (.int 1)) .nil)))) (.cons (.asg 5 (.ix (.lst (.cons (.int 1) (.cons (.bin .add (.int 1) (.bin .mod (.bin .fdiv (.var 4) (.int 64)) (.int 9))) (.cons (.bin .add (.int 1) (.bin .mod (.call 2 (.cons (.var 0) (.cons (.var 1) .nil))) (.bin .pow (.int 10) (.int 9)))) .nil)))) (.bin .mod (.bin .fdiv (.var 4) (.int 16)) (.int 3)))) (.cons (.asg 6 (.ix (.lst (.cons (.int 1) (.cons (.bin .add (.int 1) (.bin .mod (.call 2 (.cons (.var 0) (.cons (.bin .add (.var 1) (.int 1)) .nil))) (.bin .pow (.int 10) (.int 9)))) .nil))) (.bin .mod (.bin .fdiv (.var 4) (.int 1024)) (.int 2)))) (.cons (.asg 7 (.ix (.lst (.cons (.int 0) (.cons (.bin .sub (.bin .mod (.call 2 (.cons (.var 0) (.cons (.bin .add (.var 1) (.int 2)) .nil))) (.bin .mul (.int 2) (.bin .pow (.int 10) (.int 18)))) (.bin .pow (.int 10) (.int 18))) .nil))) (.bin .mod (.bin .fdiv (.var 4) (.int 2048)) (.int 2)))) (.cons (.ret (.comp (.tup (.cons (.call 13 (.cons (.bin .add (.bin .mul (.var 1) (.var 3)) (.var 4)) (.cons (.var 5) .nil))) (.cons (.call 13 (.cons (.bin .sub (.bin .mul (.var 2) (.var 3)) (.bin .mul (.int 2) (.var 4))) (.cons (.var 5) .nil))) .nil))) (.tup [1,2]) (.seqV 3) 3 [6,7,5] .non)) .nil))))))
noncomputable def zbp:Ss:=(.cons (.asg 3 (.bin .mod (.call 29 (.cons (.var 0) (.cons (.var 1) .nil))) (.int 4))) (.cons (.asg 4 (.lst .nil)) (.cons (.frr (.name 5) (.range1 (.bin .add (.int 3) (.bin .mod (.call 29 (.cons (.var 0) (.cons (.bin .add (.var 1) (.int 1)) .nil))) (.bin .sub (.var 2) (.int 2))))) (.cons (.asg 6 (.call 29 (.cons (.var 0) (.cons (.bin .add (.bin .add (.var 1) (.int 2)) (.var 5)) .nil)))) (.cons (.asg 7 (.tup (.cons (.bin .sub (.bin .mod (.var 6) (.int 7)) (.int 3)) (.cons (.bin .sub (.bin .mod (.bin .fdiv (.var 6) (.int 7)) (.int 7)) (.int 3)) .nil)))) (.cons (.iff (.cmp .eq (.var 3) (.int 1)) (.cons (.asg 7 (.tup (.cons (.bin .sub (.bin .mod (.var 6) (.int 2001)) (.int 1000)) (.cons (.bin .sub (.bin .mod (.bin .fdiv (.var 6) (.int 2001)) (.int 2001)) (.int 1000)) .nil)))) .nil) .nil) (.cons (.iff (.cmp .eq (.var 3) (.int 2)) (.cons (.asg 7 (.tup (.cons (.bin .mod (.var 6) (.int 3)) (.cons (.bin .mod (.bin .fdiv (.var 6) (.int 3)) (.int 3)) .nil)))) .nil) .nil) (.cons (.app 4 (.var 7)) .nil)))))) (.cons (.unp [8,9] (.ix (.var 4) (.int 0))) (.cons (.seti 4 (.neg (.int 2)) (.tup (.cons (.bin .add (.var 8) (.int 1)) (.cons (.bin .add (.var 9) (.bin .mod (.ix (.ix (.var 4) (.neg (.int 2))) (.int 1)) (.int 2))) .nil)))) (.cons (.seti 4 (.neg (.int 1)) (.tup (.cons (.bin .sub (.var 8) (.bin .mod (.ix (.ix (.var 4) (.neg (.int 1))) (.int 0)) (.int 2))) (.cons (.bin .add (.bin .add (.var 9) (.int 1)) (.bin .mod (.ix (.ix (.var 4) (.neg (.int 1))) (.int 1)) (.int 3))) .nil)))) (.cons (.retV 4) .nil)))))))
noncomputable def ziu:Ss:=(.cons (.ret (.tup (.cons (.call 9 (.cons (.ix (.var 0) (.int 0)) (.cons (.ix (.var 1) (.int 0)) .nil))) (.cons (.call 9 (.cons (.ix (.var 0) (.int 1)) (.cons (.ix (.var 1) (.int 1)) .nil))) .nil)))) .nil)
noncomputable def zca:Ss:=(.cons (.ret (.call 13 (.cons (.bin .add (.bin .mul (.ix (.var 0) (.int 0)) (.ix (.var 1) (.int 1))) (.bin .mul (.ix (.var 1) (.int 0)) (.ix (.var 0) (.int 1)))) (.cons (.bin .mul (.ix (.var 0) (.int 1)) (.ix (.var 1) (.int 1))) .nil)))) .nil)
noncomputable def zit:Ss:=(.cons (.ret (.bin .sub (.bin .mul (.ix (.var 0) (.int 0)) (.ix (.var 1) (.int 1))) (.bin .mul (.ix (.var 0) (.int 1)) (.ix (.var 1) (.int 0))))) .nil)
noncomputable def zex:Ss:=(.cons (.asg 2 (.call 40 (.cons (.var 0) .nil))) (.cons (.asg 3 (.call 40 (.cons (.var 1) .nil))) (.cons (.asg 4 (.lst .nil)) (.cons (.asg 5 (.int 0)) (.cons (.asg 6 (.int 0)) (.cons (.whl (.or (.cmp .lt (.var 5) (.bi .len (.cons (.var 0) .nil))) (.cmp .lt (.var 6) (.bi .len (.cons (.var 1) .nil)))) (.cons (.app 4 (.call 67 (.cons (.ix (.var 0) (.bin .mod (.var 5) (.bi .len (.cons (.var 0) .nil)))) (.cons (.ix (.var 1) (.bin .mod (.var 6) (.bi .len (.cons (.var 1) .nil)))) .nil)))) (.cons (.asg 7 (.call 83 (.cons (.sl (.var 2) (.som (.var 5)) .non) (.cons (.sl (.var 3) (.som (.var 6)) .non) .nil)))) (.cons (.iff (.cmp .ge (.var 7) (.int 0)) (.cons (.asg 5 (.bin .add (.var 5) (.int 1))) .nil) .nil) (.cons (.iff (.cmp .le (.var 7) (.int 0)) (.cons (.asg 6 (.bin .add (.var 6) (.int 1))) .nil) .nil) .nil))))) (.cons (.retV 4) .nil)))))))
noncomputable def zad:Ss:=(.cons (.iff (.cmp .eq (.var 1) (.lst .nil)) (.cons (.ret (.int 1)) .nil) .nil) (.cons (.iff (.cmp .eq (.var 0) (.lst .nil)) (.cons (.ret (.neg (.int 1))) .nil) .nil) (.cons (.ret (.call 81 (.cons (.ix (.var 0) (.int 0)) (.cons (.ix (.var 1) (.int 0)) .nil)))) .nil)))
noncomputable def zaq:Ss:=(.cons (.asg 3 .non) (.cons (.frr (.name 4) (.seqV 0) (.cons (.unp [5,6,7] (.call 30 (.cons (.var 4) .nil))) (.cons (.asg 8 (.call 13 (.cons (.bin .add (.bin .mul (.var 1) (.var 5)) (.bin .mul (.var 2) (.var 6))) (.cons (.var 7) .nil)))) (.cons (.iff (.or (.cmp .isN (.var 3) .non) (.cmp .lt (.bin .mul (.ix (.var 8) (.int 0)) (.ix (.var 3) (.int 1))) (.bin .mul (.ix (.var 3) (.int 0)) (.ix (.var 8) (.int 1))))) (.cons (.asg 3 (.var 8)) .nil) .nil) .nil)))) (.cons (.retV 3) .nil)))
noncomputable def zao:Ss:=(.cons (.frr (.name 3) (.range1 (.bi .len (.cons (.var 0) .nil))) (.cons (.asg 4 (.call 30 (.cons (.ix (.var 0) (.bin .sub (.var 3) (.int 1))) .nil))) (.cons (.asg 5 (.call 30 (.cons (.ix (.var 0) (.var 3)) .nil))) (.cons (.asg 6 (.bin .sub (.bin .mul (.ix (.var 4) (.int 1)) (.ix (.var 5) (.int 2))) (.bin .mul (.ix (.var 5) (.int 1)) (.ix (.var 4) (.int 2))))) (.cons (.asg 7 (.bin .sub (.bin .mul (.ix (.var 5) (.int 0)) (.ix (.var 4) (.int 2))) (.bin .mul (.ix (.var 4) (.int 0)) (.ix (.var 5) (.int 2))))) (.cons (.asg 8 (.call 13 (.cons (.bin .add (.bin .mul (.var 6) (.ix (.var 5) (.int 0))) (.bin .mul (.var 7) (.ix (.var 5) (.int 1)))) (.cons (.ix (.var 5) (.int 2)) .nil)))) (.cons (.iff (.cmp .ne (.var 8) (.call 73 (.cons (.call 84 (.cons (.var 1) (.cons (.var 6) (.cons (.var 7) .nil)))) (.cons (.call 84 (.cons (.var 2) (.cons (.var 6) (.cons (.var 7) .nil)))) .nil)))) (.cons (.ret (.bl false)) .nil) .nil) .nil))))))) (.cons (.ret (.bl true)) .nil))
noncomputable def zap:Ss:=(.cons (.iff (.not (.call 33 (.cons (.var 0) .nil))) (.cons (.ret (.bl false)) .nil) .nil) (.cons (.asg 3 (.lst .nil)) (.cons (.frr (.tup [4,5]) (.seqV 1) (.cons (.frr (.tup [6,7]) (.seqV 2) (.cons (.app 3 (.tup (.cons (.call 73 (.cons (.var 4) (.cons (.var 6) .nil))) (.cons (.call 73 (.cons (.var 5) (.cons (.var 7) .nil))) .nil)))) .nil)) .nil)) (.cons (.ret (.and (.cmp .eq (.comp (.var 1) (.name 1) (.seqV 0) 2 [3] (.som (.cmp .notin (.var 1) (.var 2)))) (.lst .nil)) (.call 85 (.cons (.var 0) (.cons (.var 1) (.cons (.var 2) .nil)))))) .nil))))
noncomputable def zcq:Ss:=(.cons (.asg 1 (.call 47 (.cons (.var 0) (.cons (.int 1) (.cons (.int 6) .nil))))) (.cons (.asg 2 (.call 47 (.cons (.var 0) (.cons (.int 20) (.cons (.int 6) .nil))))) (.cons (.iff (.cmp .eq (.bin .mod (.call 2 (.cons (.var 0) (.cons (.int 0) .nil))) (.int 8)) (.int 1)) (.cons (.asg 2 (.lcp (.var 1))) .nil) .nil) (.cons (.iff (.cmp .eq (.bin .mod (.call 2 (.cons (.var 0) (.cons (.int 0) .nil))) (.int 8)) (.int 3)) (.cons (.asg 3 (.comp (.tup (.cons (.tup (.cons (.bin .sub (.int 3) (.ix (.var 1) (.int 0))) (.cons (.int 1) .nil))) (.cons (.tup (.cons (.bin .sub (.int 0) (.ix (.var 2) (.int 0))) (.cons (.int 1) .nil))) .nil))) (.tup [1,2]) (.seqV 1) 3 [] (.som (.and (.cmp .eq (.ix (.var 1) (.int 1)) (.int 1)) (.cmp .eq (.ix (.var 2) (.int 1)) (.int 1)))))) (.cons (.iff (.cmp .eq (.bi .len (.cons (.var 3) .nil)) (.bi .len (.cons (.var 1) .nil))) (.cons (.asg 4 (.idx (.var 3) (.bi .min (.cons (.var 3) .nil)))) (.cons (.asg 2 (.bin .add (.sl (.var 3) (.som (.var 4)) .non) (.sl (.var 3) .non (.som (.var 4))))) .nil)) .nil) .nil)) .nil) (.cons (.asg 5 (.lst (.cons (.lcp (.var 1)) (.cons (.lcp (.var 2)) .nil)))) (.cons (.asg 6 (.call 82 (.cons (.ix (.var 5) (.int 0)) (.cons (.ix (.var 5) (.int 1)) .nil)))) (.cons (.asg 7 (.lcp (.var 6))) (.cons (.iff (.or (.not (.call 35 (.cons (.var 6) (.cons (.var 1) (.cons (.var 2) .nil))))) (.cmp .ne (.var 5) (.lst (.cons (.var 1) (.cons (.var 2) .nil))))) (.cons (.ret (.bl false)) .nil) .nil) (.cons (.clr 6) (.cons (.ret (.and (.cmp .eq (.call 82 (.cons (.ix (.var 5) (.int 0)) (.cons (.ix (.var 5) (.int 1)) .nil))) (.var 7)) (.cmp .eq (.var 5) (.lst (.cons (.var 1) (.cons (.var 2) .nil)))))) .nil))))))))))
end DL
namespace Hu
noncomputable abbrev Pt:=Int×Int
noncomputable def cr (u v:Pt):Int:=u.1*v.2-u.2*v.1
noncomputable def sb (b a:Pt):Pt:=(b.1-a.1,b.2-a.2)
noncomputable def o3 (a b c:Pt):Int:=cr (sb b a) (sb c a)
def ps (u:Pt):Prop:=0<u.1\/(u.1=0/\0<u.2)
def lt (a b:Pt):Prop:=a.1<b.1\/(a.1=b.1/\a.2<b.2)
theorem zbb {a b:Pt} (h:lt a b):ps (sb b a):=by
 unfold lt at h;unfold ps sb;dsimp only;omega
theorem lt_trans {a b c:Pt} (h:lt a b) (g:lt b c):lt a c:=by unfold lt at *;omega
theorem lt_irrefl (a:Pt):¬ lt a a:=by unfold lt;omega
theorem lt_tri (a b:Pt):lt a b\/a=b\/lt b a:=by
 obtain⟨a1,a2⟩:=a
 obtain⟨b1,b2⟩:=b
 unfold lt;simp only [Prod.mk.injEq];omega
theorem yjo (u v w:Pt):cr u w*v.1=cr u v*w.1+cr v w*u.1/\cr u w*v.2=cr u v*w.2+cr v w*u.2:=by
 unfold cr;constructor <;> grind
theorem nn_of_mul {a b:Int} (hb:0<b) (h:0<=a*b):0<=a:=by
 by_cases ha:0<=a
 ·exact ha
 ·have:=Int.mul_neg_of_neg_of_pos (Int.not_le.mp ha) hb;omega
theorem tr_le {u v w:Pt} (hu:ps u) (hv:ps v) (hw:ps w) (h1:0<=cr u v) (h2:0<=cr v w):0<=cr u w:=by
 refine xg (yjo u v w) fun e1 e2=>?_;have u0:0<=u.1:=by unfold ps at hu;omega
 have w0:0<=w.1:=by unfold ps at hw;omega
 rcases hv with hv | ⟨hv1,hv2⟩
 ·exact nn_of_mul hv (by rw [e1];exact Int.add_nonneg (Q5 h1 w0) (Q5 h2 u0))
 ·-- v is upright: so is w
  have h3:v.2*w.1<=0:=by unfold cr at h2;rw [hv1] at h2;omega
  have hw1:w.1=0:=by
   rcases K4 w0 with q | q
   ·have:=Ks hv2 q;omega
   ·exact q.symm
  have hw2:0<w.2:=by unfold ps at hw;omega
  have h4:cr v w=0:=by unfold cr;rw [hv1,hw1];omega
  rw [h4,Jw,Gm] at e2;exact nn_of_mul hv2 (by rw [e2];exact Q5 h1 (Ws hw2))
theorem zdf (u v:Pt):cr u v = - cr v u:=by unfold cr;grind
theorem tr_lt1 {u v w:Pt} (hu:ps u) (hv:ps v) (hw:ps w) (h1:0<cr u v) (h2:0<=cr v w):0<cr u w:=by
 by_cases h:0<cr u w
 ·exact h
 ·have h3:0<=cr w u:=by rw [zdf];omega
  have:=tr_le hv hw hu h2 h3
  rw [zdf] at this;omega
theorem tr_lt2 {u v w:Pt} (hu:ps u) (hv:ps v) (hw:ps w) (h1:0<=cr u v) (h2:0<cr v w):0<cr u w:=by
 by_cases h:0<cr u w
 ·exact h
 ·have h3:0<=cr w u:=by rw [zdf];omega
  have:=tr_le hw hu hv h3 h1
  rw [zdf] at this;omega
theorem zeh (a b c:Pt):o3 a b c=cr (sb b a) (sb c b):=by unfold o3 cr sb;grind
theorem o3_aa (a c:Pt):o3 a a c=0:=by unfold o3 cr sb;grind
theorem o3_ab (a b:Pt):o3 a b b=0:=by unfold o3 cr sb;grind
theorem o3_ba (a b:Pt):o3 a b a=0:=by unfold o3 cr sb;grind
inductive Chain:List Pt->Prop where
 | one (a:Pt):Chain [a]
 | two (a b:Pt):lt a b->Chain [b,a]
 | more (a b c:Pt) (r:List Pt):Chain (b::a::r)->lt b c->0<o3 a b c->Chain (c::b::a::r)
noncomputable def Over (q:Pt):List Pt->Prop
 | b::a::r=>0<=o3 a b q/\Over q (a::r)
 | _=>True
noncomputable def strictOver (q:Pt):List Pt->Prop
 | b::a::r=>0<o3 a b q/\strictOver q (a::r)
 | _=>True
theorem Chain.tail {c b:Pt} {r:List Pt} (h:Chain (c::b::r)):Chain (b::r):=by
 cases h with
 | two a b h=>exact .one _
 | more a b c r h _ _=>exact h
theorem Chain.lt {c b:Pt} {r:List Pt} (h:Chain (c::b::r)):lt b c:=by
 cases h with
 | two a b h=>exact h
 | more a b c r h g _=>exact g
theorem Chain.ahead {p:Pt}:∀ {b a:Pt} {r:List Pt},Chain (b::a::r)->Hu.lt b p->0<o3 a b p->strictOver p (b::a::r):=by
 intro b a r;induction r generalizing a b with
 | nil=>intro _ _ h;exact⟨h,trivial⟩
 | cons z r ih=>
  intro h hp h0;have hab:=h.lt;have ht:=h.tail;cases h with
  | more z a b r h2 hb hz=>
   have hza:Hu.lt z a:=h2.lt;refine⟨h0,ih ht (lt_trans hab hp) ?_⟩
   have u:=zbb hza;have v:=zbb hab;have w:=zbb hp;rw [zeh] at h0 hz |-;have k1:0<cr (sb a z) (sb p b):=tr_lt1 u v w hz (Ws h0);have e:cr (sb a z) (sb p a)=cr (sb a z) (sb b a)+cr (sb a z) (sb p b):=by unfold cr sb;grind
   rw [e];omega
theorem strictOver.over {q:Pt}:∀ {l:List Pt},strictOver q l->Over q l
 | [],_=>trivial
 | [_],_=>trivial
 | _::a::r,h=>⟨Ws h.1,strictOver.over (l:=a::r) h.2⟩
noncomputable def popw (p:Pt):List Pt->List Pt
 | b::a::r=>if o3 a b p<=0 then popw p (a::r) else b::a::r
 | l=>l
noncomputable def bent (st:List Pt):List Pt->List Pt
 | []=>st
 | p::r=>bent (p::popw p st) r
theorem Chain.allLt {c:Pt}:∀ {r:List Pt},Chain (c::r)->∀ w∈r,Hu.lt w c:=by
 intro r;induction r generalizing c with
 | nil=>intro _ w hw;cases hw
 | cons b r ih=>
  intro h w hw;rcases Zi.mp hw with e | e
  ·subst e;exact h.lt
  ·exact lt_trans (ih h.tail w e) h.lt
theorem pop_ok {S:List Pt} {p:Pt} (hS:∀ q∈S,lt q p):∀ (st:List Pt) (t:Pt) (r:List Pt),st=t::r->Chain st->(∀ q∈S,Over q st)->(∀ w∈st,w∈S)->(∀ q∈S,lt t q->0<=o3 t p q) ->
  (∀ z,st.getLast? = some z->∀ q∈S,q=z\/lt z q) ->
  ∃ t' r',popw p st=t'::r'/\Chain (p::t'::r')/\(∀ q∈S,Over q (p::t'::r'))/\(∀ w∈t'::r',w∈st)/\(t'::r').getLast? = st.getLast?:=by
 intro st;induction st with
 | nil=>intro t r e;cases e
 | cons b st ih=>
  intro t r e hc ho hw hcov hl;cases e;cases st with
  | nil=>
   refine⟨b,[],rfl,.two b p (hS b (hw b (by simp))),fun q hq=>⟨?_,trivial⟩,fun w h=>h,rfl⟩
   rcases hl b rfl q hq with e | e
   ·subst e;rw [o3_ba];exact Je 0
   ·exact hcov q hq e
  | cons a r=>
   have hab:lt a b:=hc.lt;have hbp:lt b p:=hS b (hw b (by simp));have hap:lt a p:=lt_trans hab hbp;by_cases h0:o3 a b p<=0
   ·obtain⟨t',r',e1,e2,e3,e4,e5⟩:=ih a r rfl hc.tail (fun q hq=>(ho q hq).2) (fun w h=>hw w (Yl _ h)) (fun q hq haq=>by
     have h1:=(ho q hq).1;have h2:0<=cr (sb p a) (sb b a):=by rw [zdf];unfold o3 at h0;omega
     exact tr_le (zbb hap) (zbb hab) (zbb haq) h2 h1) (fun z hz=>hl z (by rw [Jb];exact hz))
    refine⟨t',r',?_,e2,e3,fun w h=>Yl _ (e4 w h),?_⟩
    ·rw [popw,if_pos h0];exact e1
    ·rw [e5,Jb]
   ·have h0':0<o3 a b p:=Int.not_le.mp h0;refine⟨b,a::r,by rw [popw,if_neg h0],.more a b p r hc hbp h0',fun q hq=>⟨?_,ho q hq⟩,fun w h=>h,rfl⟩
    rcases lt_tri b q with e | e | e
    ·exact hcov q hq e
    ·subst e;rw [o3_ba];exact Je 0
    ·have h1:=(ho q hq).1;rw [zeh] at h1 h0';have k1:0<=cr (sb b q) (sb b a):=by
      have e:cr (sb b q) (sb b a)=cr (sb b a) (sb q b):=by unfold cr sb;grind
      rw [e];exact h1
     have k2:=tr_lt2 (zbb e) (zbb hab) (zbb hbp) k1 h0';have e2:o3 b p q=cr (sb b q) (sb p b):=by unfold o3 cr sb;grind
     rw [e2];exact Ws k2
structure Good (S st:List Pt):Prop where
 ch:Chain st
 ov:∀ q∈S,Over q st
 sub:∀ w∈st,w∈S
 hd:∀ t,st.head? = some t->∀ q∈S,q=t\/lt q t
 ls:∀ z,st.getLast? = some z->∀ q∈S,q=z\/lt z q
theorem Good.push {S st:List Pt} {p:Pt} (g:Good S st) (hS:∀ q∈S,lt q p):Good (p::S) (p::popw p st):=by
 obtain⟨hc,ho,hw,hh,hl⟩:=g
 cases st with
 | nil=>cases hc
 | cons t r=>
  obtain⟨t',r',e1,e2,e3,e4,e5⟩:=pop_ok hS (t::r) t r rfl hc ho hw (fun q hq h=>by
   rcases hh t rfl q hq with e | e
   ·subst e;exact absurd h (lt_irrefl _)
   ·exact absurd (lt_trans h e) (lt_irrefl _)) hl
  rw [e1];refine⟨e2,fun q hq=>?_,fun w h=>?_,fun z hz q hq=>?_,fun z hz q hq=>?_⟩
  ·rcases Zi.mp hq with e | e
   ·subst e;refine⟨by rw [o3_ab];exact Je 0,?_⟩
    cases e2 with
    | two a b h=>trivial
    | more a b c r h1 h2 h3=>exact (h1.ahead h2 h3).over
   ·exact e3 q e
  ·rcases Zi.mp h with e | e
   ·subst e;exact Y9
   ·exact Yl _ (hw w (e4 w e))
  ·cases hz;rcases Zi.mp hq with e | e
   ·exact .inl e
   ·exact .inr (hS q e)
  ·rw [Jb,e5] at hz;rcases Zi.mp hq with e | e
   ·subst e;have hz':z∈S:=hw z (J1 hz);exact .inr (hS z hz')
   ·exact hl z hz q e
theorem Good.start (p:Pt):Good [p] [p]:=
 ⟨.one p,fun q _=>trivial,fun w h=>h,fun t e q hq=>by cases e;exact .inl (Zt.mp hq),fun t e q hq=>by cases e;exact .inl (Zt.mp hq)⟩
theorem zoh:∀ (l S st:List Pt),Good S st->(∀ q∈S,∀ p∈l,lt q p)->l.Pairwise lt->∃ S',Good S' (bent st l)/\∀ x,x∈S'↔x∈S\/x∈l
 | [],S,st,g,_,_=>⟨S,g,fun x=>by simp⟩
 | p::l,S,st,g,h,hp=>by
  have hp':=Wj.mp hp;obtain⟨S',g',e⟩:=zoh l (p::S) (p::popw p st) (g.push fun q hq=>h q hq p Y9) (fun q hq y hy=>by
   rcases Zi.mp hq with e | e
   ·subst e;exact hp'.1 y hy
   ·exact h q e y (Yl _ hy)) hp'.2
  exact⟨S',g',fun x=>by rw [e x,Zi,Zi];grind⟩
def Edge (a b:Pt) (st:List Pt):Prop:=∃ l1 l2,st=l1++b::a::l2
theorem Chain.suffix:∀ {l1:List Pt} {b:Pt} {r:List Pt},Chain (l1++b::r)->Chain (b::r)
 | [],_,_,h=>h
 | [_],_,_,h=>h.tail
 | x::y::l,b,r,h=>Chain.suffix (l1:=y::l) h.tail
theorem Over.edge {q:Pt}:∀ {st:List Pt} {a b:Pt},Over q st->Edge a b st->0<=o3 a b q
 | st,a,b,h,⟨l1,l2,e⟩=>by
  subst e;induction l1 with
  | nil=>exact h.1
  | cons x l1 ih=>
   cases l1 with
   | nil=>exact ih h.2
   | cons y l=>exact ih h.2
theorem strictOver.edge {q:Pt}:∀ {st:List Pt} {a b:Pt},strictOver q st->Edge a b st->0<o3 a b q
 | st,a,b,h,⟨l1,l2,e⟩=>by
  subst e;induction l1 with
  | nil=>exact h.1
  | cons x l1 ih=>
   cases l1 with
   | nil=>exact ih h.2
   | cons y l=>exact ih h.2
theorem Chain.strict {c:Pt}:∀ {st:List Pt},Chain (c::st)->strictOver c st
 | [],_=>trivial
 | [_],_=>trivial
 | b::a::r,h=>by
  cases h with
  | more a b c r h1 h2 h3=>exact h1.ahead h2 h3
theorem Chain.back {b a:Pt}:∀ {l2:List Pt},Chain (b::a::l2)->∀ c∈l2,0<cr (sb a c) (sb b a):=by
 intro l2;induction l2 generalizing a b with
 | nil=>intro _ c hc;cases hc
 | cons z l3 ih=>
  intro h c hc;have hab:=h.lt;have h1:=h.tail;cases h with
  | more z a b r h2 hb hz=>
   rw [zeh] at hz;rcases Zi.mp hc with e | e
   ·subst e;exact hz
   ·have k:=ih h1 c e;have hza:=h1.lt;have hcz:Hu.lt c z:=h1.tail.allLt c e;have k2:=tr_lt1 (zbb hcz) (zbb hza) (zbb hab) k (Ws hz);have e2:cr (sb a c) (sb b a)=cr (sb z c) (sb b a)+cr (sb a z) (sb b a):=by unfold cr sb;grind
    rw [e2];omega
theorem Chain.convex {st:List Pt} {a b c:Pt} (h:Chain st) (e:Edge a b st) (hc:c∈st) (ha:c≠a) (hb:c≠b):0<o3 a b c:=by
 refine xl e fun l1 l2 e=>?_;subst e;rcases Yw.mp hc with h1 | h1
 ·-- further on
  refine xl (Kv h1) fun x y e=>?_;subst e;rw [Yy,Q0] at h;exact (h.suffix).strict.edge ⟨y,l2,rfl⟩
 ·rcases Zi.mp h1 with h2 | h2
  ·exact absurd h2 hb
  ·rcases Zi.mp h2 with h3 | h3
   ·exact absurd h3 ha
   ·have k:=(h.suffix).back c h3;have e2:o3 a b c=cr (sb a c) (sb b a):=by unfold o3 cr sb;grind
    rw [e2];exact k
noncomputable def ng (a:Pt):Pt:=(-a.1,-a.2)
theorem zne (a b c:Pt):o3 (ng a) (ng b) (ng c)=o3 a b c:=by unfold o3 cr sb ng;grind
theorem lt_ng {a b:Pt}:lt (ng a) (ng b)↔lt b a:=by unfold lt ng;dsimp only;omega
theorem yic (a:Pt):ng (ng a)=a:=by unfold ng;simp
theorem zjt {u m v:Pt} (hm:ps m) (h1:cr u m=0) (h2:cr m v=0):cr u v=0:=by
 refine xg (yjo u m v) fun e1 e2=>?_;rw [h1,h2] at e1 e2;simp only [Jw,Gm] at e1 e2;rcases hm with h | ⟨_,h⟩
 ·rcases Jx.mp e1 with z | z
  ·exact z
  ·omega
 ·rcases Jx.mp e2 with z | z
  ·exact z
  ·omega
theorem zxs {a b c u:Pt} (h1:lt a c) (h2:lt c b) (h0:o3 a b c=0) (ga:0<=cr u (sb a c)) (gb:0<=cr u (sb b c)):cr u (sb b c)=0:=by
 have n:=zbb h1;have m:=zbb h2;have p0:cr (sb c a) (sb b c)=0:=by
  have e:cr (sb c a) (sb b c) = - o3 a b c:=by unfold o3 cr sb;grind
  rw [e,h0];rfl
 have ga':cr u (sb c a)<=0:=by
  have e:cr u (sb a c) = - cr u (sb c a):=by unfold cr sb;grind
  omega
 refine xg (yjo u (sb c a) (sb b c)) fun e1 e2=>?_;rw [p0,Jw,Gm] at e1 e2;generalize sb c a=n1 at *;generalize sb b c=m1 at *;rcases K4 gb with q | q
 ·exfalso
  have m0:0<=m1.1:=by unfold ps at m;omega
  have n0:0<=n1.1:=by unfold ps at n;omega
  have r1:cr u n1*m1.1<=0:=Uk ga' m0;have l1:0<=cr u m1*n1.1:=Q5 gb n0;have z:n1.1=0:=by
   rcases K4 n0 with k | k
   ·have:=Ks q k;omega
   ·exact k.symm
  have n2:0<n1.2:=by unfold ps at n;omega
  have l2:0<cr u m1*n1.2:=Ks q n2;have m2:m1.2<0\/0<=m1.2:=by omega
  rcases m2 with k | k
  ·-- then m1.1 > 0 and so cr u n1=0
   have m3:0<m1.1:=by unfold ps at m;omega
   have z2:cr u n1*m1.1=0:=by rw [<- e1,z,Int.mul_zero]
   rcases Jx.mp z2 with y | y
   ·rw [y,Jw] at e2;omega
   ·omega
  ·have:=Uk ga' k;omega
 ·exact q.symm
theorem Edge.ng {a b:Pt} {st:List Pt} (e:Edge a b st):Edge (ng a) (ng b) (st.map Hu.ng):=by
 refine xl e fun l1 l2 e=>?_;subst e;exact⟨l1.map Hu.ng,l2.map Hu.ng,by simp⟩
theorem Good.mem_last {S st:List Pt} (g:Good S st):∃ z,st.getLast? = some z/\z∈st:=by
 cases st with
 | nil=>cases g.ch
 | cons a r=>exact⟨(a::r).getLast (by simp),List.getLast?_eq_some_getLast (by simp),List.getLast_mem _⟩
theorem Good.mem_head {S st:List Pt} (g:Good S st):∃ z,st.head? = some z/\z∈st:=by
 cases st with
 | nil=>cases g.ch
 | cons a r=>exact⟨a,rfl,Y9⟩
theorem zkq {S:List Pt} {x y:Pt} (hx:x∈S) (hy:y∈S) (h1:∀ q∈S,q=x\/lt x q) (h2:∀ q∈S,q=y\/lt y q):x=y:=by
 rcases h1 y hy with e | e
 ·exact e.symm
 ·rcases h2 x hx with k | k
  ·exact k
  ·exact absurd (lt_trans e k) (lt_irrefl _)
theorem zkr {S:List Pt} {x y:Pt} (hx:x∈S) (hy:y∈S) (h1:∀ q∈S,q=x\/lt q x) (h2:∀ q∈S,q=y\/lt q y):x=y:=by
 rcases h1 y hy with e | e
 ·exact e.symm
 ·rcases h2 x hx with k | k
  ·exact k
  ·exact absurd (lt_trans e k) (lt_irrefl _)
theorem zbx {a b:Pt} (h:ng a=ng b):a=b:=by rw [<- yic a,h,yic]
theorem zry {S st su:List Pt} (g:Good S st) (gu:Good (S.map ng) (su.map ng)) {c:Pt} (h:su.head? = some c\/su.getLast? = some c):c∈st:=by
 rcases h with h | h
 ·have hh:(su.map ng).head? = some (ng c):=by rw [Vw,h];rfl
  have hm:=gu.hd _ hh;have hc:c∈S:=by
   have:=gu.sub (ng c) (G6 hh)
   refine xa (Zz.mp this) fun y hy e=>?_;rw [<- zbx e];exact hy
  refine xa g.mem_last fun z hz hzm=>?_;have e:c=z:=zkq hc (g.sub z hzm) (fun q hq=>by
   rcases hm (ng q) (Z6 hq) with k | k
   ·exact .inl (zbx k)
   ·exact .inr (lt_ng.mp k)) (g.ls z hz)
  rw [e];exact hzm
 ·have hh:(su.map ng).getLast? = some (ng c):=by rw [Uw,h];rfl
  have hm:=gu.ls _ hh;have hc:c∈S:=by
   have:=gu.sub (ng c) (J1 hh)
   refine xa (Zz.mp this) fun y hy e=>?_;rw [<- zbx e];exact hy
  refine xa g.mem_head fun z hz hzm=>?_;have e:c=z:=zkr hc (g.sub z hzm) (fun q hq=>by
   rcases hm (ng q) (Z6 hq) with k | k
   ·exact .inl (zbx k)
   ·exact .inr (lt_ng.mp k)) (g.hd z hz)
  rw [e];exact hzm
theorem zfw {S st su:List Pt} (g:Good S st) (gu:Good (S.map ng) (su.map ng)) {a b c:Pt} (e:Edge a b st) (hc:c∈su) (ha:c≠a) (hb:c≠b):0<o3 a b c:=by
 have cS:c∈S:=by
  have:=gu.sub (ng c) (Z6 hc)
  refine xa (Zz.mp this) fun y hy e=>?_;rw [<- zbx e];exact hy
 by_cases hin:c∈st
 ·exact g.ch.convex e hin ha hb
 ·have h0:=(g.ov c cS).edge e;rcases K4 h0 with h0 | h0
  ·exact h0
  ·exfalso
   refine xl (Kv hc) fun x y exy=>?_;have hx:x≠[]:=fun z=>hin (zry g gu (.inl (by rw [exy,z];rfl)))
   have hy:y≠[]:=fun z=>hin (zry g gu (.inr (by rw [exy,z];simp)))
   obtain⟨x',v,ex⟩:∃ x' v,x=x'++[v]:=⟨x.dropLast,x.getLast hx,(Qk hx).symm⟩
   obtain⟨u,y',ey⟩:∃ u y',y=u::y':=Vp hy
   subst ex ey;have e1:Edge u c su:=⟨x'++[v],y',by rw [exy]⟩;have e2:Edge c v su:=⟨x',u::y',by rw [exy];simp⟩;have tu:0<o3 u c v:=by
    have h:=gu.ch;rw [exy] at h;simp only [Yk,Zv,Wn,Yy,Q0,Wb] at h;have h:=h.suffix;cases h with
    | more a b c r h1 h2 h3=>rw [<- zne];exact h3
   have on1:∀ q∈S,0<=cr (sb c u) (sb q c):=fun q hq=>by
    have:=(gu.ov (ng q) (Z6 hq)).edge e1.ng
    rw [zne,zeh] at this;exact this
   have on2:∀ q∈S,0<=cr (sb v c) (sb q c):=fun q hq=>by
    have:=(gu.ov (ng q) (Z6 hq)).edge e2.ng
    rw [zne] at this;exact this
   refine xl (id e) fun l1 l2 est=>?_;have aS:a∈S:=g.sub a (by rw [est];simp);have bS:b∈S:=g.sub b (by rw [est];simp);have hab:lt a b:=by
    have h:=g.ch;rw [est] at h;exact h.suffix.lt
   rcases lt_tri b c with k | k | k
   ·-- beyond b
    have hl1:l1≠[]:=fun z=>by
     subst z;rcases g.hd b (by rw [est];rfl) c cS with q | q
     ·exact hb q
     ·exact lt_irrefl _ (lt_trans k q)
    obtain⟨l1',d,ed⟩:∃ l1' d,l1=l1'++[d]:=⟨l1.dropLast,l1.getLast hl1,(Qk hl1).symm⟩
    subst ed;have ebd:Edge b d st:=⟨l1',a::l2,by rw [est];simp⟩;have h:=g.ch;rw [est] at h;simp only [Yy,Q0,Wb] at h;have h:=h.suffix;cases h with
    | more a b d r h1 hbd h3=>
     have k1:=(g.ov c cS).edge ebd;rw [zeh] at h3 h0;have:=tr_lt1 (zbb hab) (zbb hbd) (zbb k) h3 k1
     omega
   ·exact hb k.symm
   ·rcases lt_tri c a with j | j | j
    ·-- ahead of a
     have hl2:l2≠[]:=fun z=>by
      subst z;rcases g.ls a (by rw [est];simp) c cS with q | q
      ·exact ha q
      ·exact lt_irrefl _ (lt_trans j q)
     obtain⟨z,l2',ez⟩:∃ z l2',l2=z::l2':=Vp hl2
     subst ez;have eza:Edge z a st:=⟨l1++[b],l2',by rw [est];simp⟩;have h:=g.ch;rw [est] at h;have h:=h.suffix;have hza:=h.tail.lt;cases h with
     | more z a b r h1 hbd h3=>
      have k1:=(g.ov c cS).edge eza;rw [zeh] at h3 k1;have k2:0<=cr (sb a c) (sb a z):=by
       have e:cr (sb a c) (sb a z)=cr (sb a z) (sb c a):=by unfold cr sb;grind
       rw [e];exact k1
      have:=tr_lt2 (zbb j) (zbb hza) (zbb hab) k2 h3
      have e:o3 a b c=cr (sb a c) (sb b a):=by unfold o3 cr sb;grind
      omega
    ·exact ha j
    ·-- between
     have f1:=zxs j k h0.symm (on1 a aS) (on1 b bS);have f2:=zxs j k h0.symm (on2 a aS) (on2 b bS);have m:=zbb k;have:cr (sb c u) (sb v c)=0:=zjt m f1 (by rw [zdf,f2];rfl)
     rw [zeh] at tu;omega
theorem Good.congr {S S' st:List Pt} (g:Good S st) (h:∀ x,x∈S'↔x∈S):Good S' st:=
 ⟨g.ch,fun q hq=>g.ov q ((h q).mp hq),fun w hw=>(h w).mpr (g.sub w hw),fun t e q hq=>g.hd t e q ((h q).mp hq),fun t e q hq=>g.ls t e q ((h q).mp hq)⟩
theorem zvo (p:Pt):∀ st:List Pt,(popw p st).map ng=popw (ng p) (st.map ng)
 | []=>rfl
 | [_]=>rfl
 | b::a::r=>by
  have ih:=zvo p (a::r);by_cases h:o3 a b p<=0
  ·have h':o3 (ng a) (ng b) (ng p)<=0:=by rw [zne];exact h
   show (popw p (b::a::r)).map ng=popw (ng p) (ng b::ng a::r.map ng);rw [popw,if_pos h,popw,if_pos h'];exact ih
  ·have h':¬ o3 (ng a) (ng b) (ng p)<=0:=by rw [zne];exact h
   show (popw p (b::a::r)).map ng=popw (ng p) (ng b::ng a::r.map ng);rw [popw,if_neg h,popw,if_neg h'];rfl
theorem zyt:∀ (l st:List Pt),(bent st l).map ng=bent (st.map ng) (l.map ng)
 | [],st=>rfl
 | p::l,st=>by
  show (bent (p::popw p st) l).map ng=bent (ng p::popw (ng p) (st.map ng)) (l.map ng);rw [zyt l,Zv,zvo]
theorem zxo {l:List Pt} (h:l.Pairwise lt) (hn:l≠[]):Good l (bent [] l):=by
 cases l with
 | nil=>exact absurd rfl hn
 | cons p r=>
  have hp:=Wj.mp h;obtain⟨S',g,e⟩:=zoh r [p] [p] (Good.start p) (fun q hq y hy=>by rw [Zt.mp hq];exact hp.1 y hy) hp.2
  exact g.congr fun x=>by rw [e x,Zi,Zt]
theorem yiu {l:List Pt} (h:l.Pairwise lt) (hn:l≠[]):Good (l.map ng) ((bent [] l.reverse).map ng):=by
 rw [zyt];have hr:(l.reverse.map ng).Pairwise lt:=by
  rw [Wy,V8];exact h.imp fun h=>lt_ng.mpr h
 exact (zxo hr (by simpa using hn)).congr fun x=>by simp
theorem zbf {st:List Pt} {i:Nat} {a b:Pt} (h1:st.reverse[i]? = some a) (h2:st.reverse[i+1]? = some b):Edge a b st:=by
 refine xb (Zl.mp h1) fun hi ea=>?_;refine xb (Zl.mp h2) fun hi2 eb=>?_;have e1:st.reverse=st.reverse.take i++a::b::st.reverse.drop (i+2):=by
  conv=>lhs;rw [<- Kj i st.reverse]
  rw [Wp hi,ea,Wp hi2,eb]
 refine⟨(st.reverse.drop (i+2)).reverse,(st.reverse.take i).reverse,?_⟩
 have e2:=congrArg List.reverse e1;rw [List.reverse_reverse] at e2;refine e2.trans ?_;simp
noncomputable def ring (l:List Pt):List Pt:=(bent [] l).reverse.dropLast++(bent [] l.reverse).reverse.dropLast
theorem zhw:∀ l:List Pt,(l.map ng).map ng=l
 | []=>rfl
 | x::l=>by rw [Zv,Zv,yic,zhw l]
structure Both (l st su:List Pt):Prop where
 g:Good l st
 gu:Good (l.map ng) (su.map ng)
theorem Both.turn {l st su:List Pt} (h:Both l st su):Both (l.map ng) (su.map ng) (st.map ng):=
 ⟨h.gu,by
  rw [zhw,zhw];exact h.g⟩
theorem Both.over {l st su:List Pt} (h:Both l st su) {a b q:Pt} (e:Edge a b st\/Edge a b su) (hq:q∈l):0<=o3 a b q:=by
 rcases e with e | e
 ·exact (h.g.ov q hq).edge e
 ·have:=(h.gu.ov (ng q) (Z6 hq)).edge e.ng
  rw [zne] at this;exact this
theorem Both.strict {l st su:List Pt} (h:Both l st su) {a b c:Pt} (e:Edge a b st\/Edge a b su) (hc:c∈st\/c∈su) (ha:c≠a) (hb:c≠b):0<o3 a b c:=by
 rcases e with e | e
 ·rcases hc with hc | hc
  ·exact h.g.ch.convex e hc ha hb
  ·exact zfw h.g h.gu e hc ha hb
 ·have ha':ng c≠ng a:=fun z=>ha (zbx z)
  have hb':ng c≠ng b:=fun z=>hb (zbx z)
  rw [<- zne];rcases hc with hc | hc
  ·exact zfw h.turn.g h.turn.gu e.ng (Z6 hc) ha' hb'
  ·exact h.gu.ch.convex e.ng (Z6 hc) ha' hb'
theorem yka {l:List Pt} (h:l.Pairwise lt) (hn:l≠[]):Both l (bent [] l) (bent [] l.reverse):=⟨zxo h hn,yiu h hn⟩
theorem Chain.nodup:∀ {st:List Pt},Chain st->st.Nodup
 | [],h=>by cases h
 | c::r,h=>by
  refine Wa.mpr ⟨fun hm=>lt_irrefl _ (h.allLt c hm),?_⟩;cases r with
  | nil=>exact Ua
  | cons b r=>exact Chain.nodup h.tail
theorem Both.inner {l st su:List Pt} (h:Both l st su) {c:Pt} (h1:c∈st) (h2:c∈su):(∀ q∈l,q=c\/lt c q)\/(∀ q∈l,q=c\/lt q c):=by
 refine xl (Kv h1) fun x y e=>?_;cases x with
 | nil=>exact .inr (h.g.hd c (by rw [e];rfl))
 | cons x0 x1=>
  cases y with
  | nil=>exact .inl (h.g.ls c (by rw [e];exact Gh))
  | cons a y'=>
   obtain⟨x',b,ex⟩:∃ x' b,x0::x1=x'++[b]:=⟨(x0::x1).dropLast,(x0::x1).getLast (by simp),(Qk _).symm⟩
   rw [ex] at e;refine xl (Kv h2) fun z t e2=>?_;cases z with
   | nil=>
    have:=h.gu.hd (ng c) (by rw [e2];rfl)
    exact .inl fun q hq=>by
     rcases this (ng q) (Z6 hq) with k | k
     ·exact .inl (zbx k)
     ·exact .inr (lt_ng.mp k)
   | cons z0 z1=>
    cases t with
    | nil=>
     have:=h.gu.ls (ng c) (by rw [e2,Yk];exact Gh)
     exact .inr fun q hq=>by
      rcases this (ng q) (Z6 hq) with k | k
      ·exact .inl (zbx k)
      ·exact .inr (lt_ng.mp k)
    | cons u t'=>
     obtain⟨z',v,ez⟩:∃ z' v,z0::z1=z'++[v]:=⟨(z0::z1).dropLast,(z0::z1).getLast (by simp),(Qk _).symm⟩
     rw [ez] at e2;exfalso
     have hc1:=h.g.ch;rw [e] at hc1;simp only [Yy,Q0,Wb] at hc1;have hc1:=hc1.suffix;have hac:=hc1.tail.lt;have hcb:=hc1.lt;have t1:0<cr (sb c a) (sb b c):=by
      cases hc1 with
      | more a c b r k1 k2 k3=>rw [zeh] at k3;exact k3
     have hc2:=h.gu.ch;rw [e2] at hc2;simp only [Yk,Zv,Wn,Yy,Q0,Wb] at hc2;have hc2:=hc2.suffix;have huc:=lt_ng.mp hc2.tail.lt;have hcv:=lt_ng.mp hc2.lt;have t2:0<cr (sb u c) (sb c v):=by
      cases hc2 with
      | more a' c' b' r k1 k2 k3=>
       rw [zne,zeh] at k3;have e:cr (sb u c) (sb c v)=cr (sb c u) (sb v c):=by unfold cr sb;grind
       rw [e];exact k3
     have vl:v∈l:=by
      refine xa (Zz.mp (h.gu.sub (ng v) (by rw [e2];simp))) fun y hy e=>?_;rw [<- zbx e];exact hy
     have ul:u∈l:=by
      refine xa (Zz.mp (h.gu.sub (ng u) (by rw [e2];simp))) fun y hy e=>?_;rw [<- zbx e];exact hy
     have k1:=h.over (.inl ⟨x'++[b],y',by rw [e]⟩:Edge a c st\/Edge a c su) vl;have k2:=h.over (.inl ⟨x',a::y',by rw [e];simp⟩:Edge c b st\/Edge c b su) ul;have k1':0<=cr (sb c v) (sb c a):=by
      have e:cr (sb c v) (sb c a)=o3 a c v:=by unfold o3 cr sb;grind
      rw [e];exact k1
     have k2':0<=cr (sb b c) (sb u c):=k2;have r1:=tr_lt2 (zbb hcb) (zbb huc) (zbb hcv) k2' t2;have r2:=tr_lt1 (zbb hcb) (zbb hcv) (zbb hac) r1 k1';rw [zdf] at r2;omega
theorem zgt {st:List Pt} {t:Pt} (h:st.head? = some t):st.reverse[st.length-1]? = some t:=by
 cases st with
 | nil=>cases h
 | cons a r=>cases h;simp
theorem zdd {st:List Pt} {t:Pt} (h:st.getLast? = some t):st.reverse[0]? = some t:=by
 rw [<- List.head?_eq_getElem?,List.head?_reverse];exact h
structure Ends (l st su:List Pt) (lo hi:Pt):Prop where
 b:Both l st su
 h1:st.head? = some hi
 h2:st.getLast? = some lo
 h3:su.head? = some lo
 h4:su.getLast? = some hi
 ne:lo≠hi
 lo_l:lo∈l
 hi_l:hi∈l
 least:∀ q∈l,q=lo\/lt lo q
 most:∀ q∈l,q=hi\/lt q hi
theorem yjk {l:List Pt} (h:l.Pairwise lt) (h2:2<=l.length):∃ lo hi,Ends l (bent [] l) (bent [] l.reverse) lo hi:=by
 have hn:l≠[]:=by intro z;subst z;simp at h2
 have b:=yka h hn;refine xa b.g.mem_head fun hi e1 m1=>?_;refine xa b.g.mem_last fun lo e2 m2=>?_;have hl:=b.g.sub lo m2;have hh:=b.g.sub hi m1;have lo':=b.g.ls lo e2;have hi':=b.g.hd hi e1;obtain⟨x,e3,m3⟩:∃ x,(bent [] l.reverse).head? = some x/\x∈bent [] l.reverse:=by
  refine xa b.gu.mem_head fun z hz _=>?_;rw [Vw] at hz;cases e:(bent [] l.reverse).head? with
  | none=>rw [e] at hz;cases hz
  | some x=>exact⟨x,rfl,G6 e⟩
 obtain⟨y,e4,m4⟩:∃ x,(bent [] l.reverse).getLast? = some x/\x∈bent [] l.reverse:=by
  refine xa b.gu.mem_last fun z hz _=>?_;rw [Uw] at hz;cases e:(bent [] l.reverse).getLast? with
  | none=>rw [e] at hz;cases hz
  | some x=>exact⟨x,rfl,J1 e⟩
 have inl:∀ c∈bent [] l.reverse,c∈l:=fun c hc=>by
  refine xa (Zz.mp (b.gu.sub (ng c) (Z6 hc))) fun y hy e=>?_;rw [<- zbx e];exact hy
 have ex:x=lo:=zkq (inl x m3) hl (fun q hq=>by
  rcases b.gu.hd (ng x) (by rw [Vw,e3];rfl) (ng q) (Z6 hq) with k | k
  ·exact .inl (zbx k)
  ·exact .inr (lt_ng.mp k)) lo'
 have ey:y=hi:=zkr (inl y m4) hh (fun q hq=>by
  rcases b.gu.ls (ng y) (by rw [Uw,e4];rfl) (ng q) (Z6 hq) with k | k
  ·exact .inl (zbx k)
  ·exact .inr (lt_ng.mp k)) hi'
 subst ex ey;refine⟨x,y,b,e1,e2,e3,e4,fun z=>?_,hl,hh,lo',hi'⟩
 subst z;match l,h,h2 with
 | p::q::r,h,_=>
  have hpq:=(Wj.mp h).1 q (by simp);have all:∀ a∈p::q::r,a=x:=fun a ha=>by
   rcases lo' a ha with k | k
   ·exact k
   ·rcases hi' a ha with j | j
    ·exact j
    ·exact absurd (lt_trans k j) (lt_irrefl _)
  rw [all p (by simp),all q (by simp)] at hpq;exact lt_irrefl _ hpq
theorem two_of {st:List Pt} {a b:Pt} (ha:st.head? = some a) (hb:st.getLast? = some b) (h:b≠a):2<=st.length:=by
 match st,ha,hb with
 | [x],ha,hb=>cases ha;cases hb;exact absurd rfl h
 | x::y::r,_,_=>simp
theorem Ends.step {l st su:List Pt} {lo hi:Pt} (E:Ends l st su lo hi) {i:Nat} (hR:i<(st.reverse.dropLast++su.reverse.dropLast).length) {a b:Pt} (ha:(st.reverse.dropLast++su.reverse.dropLast)[i]? = some a)
  (hb:(st.reverse.dropLast++su.reverse.dropLast)[(i+1)%(st.reverse.dropLast++su.reverse.dropLast).length]? = some b):Edge a b st\/Edge a b su:=by
 have n1:=two_of E.h1 E.h2 E.ne;have n2:=two_of E.h3 E.h4 (Wh E.ne);have l1:=zgt E.h1;have l2:=zdd E.h2;have l3:=zgt E.h3;have l4:=zdd E.h4;have len:(st.reverse.dropLast++su.reverse.dropLast).length=(st.length-1)+(su.length-1):=by simp
 rw [len] at hR hb;have gU:∀ j,j<st.length-1->(st.reverse.dropLast++su.reverse.dropLast)[j]? = st.reverse[j]?:=fun j hj=>by
  rw [Z2 (by simpa using hj),Jg,if_pos (by simpa using hj)]
 have gV:∀ j,j<su.length-1->(st.reverse.dropLast++su.reverse.dropLast)[(st.length-1)+j]? = su.reverse[j]?:=fun j hj=>by
  rw [Zu (by simp),Jg];simp only [Ww,Yv,Nat.add_sub_cancel_left];rw [if_pos hj]
 by_cases c:i<st.length-1
 ·left
  rw [gU i c] at ha;by_cases c2:i+1<st.length-1
  ·rw [Z5 (by omega),gU (i+1) c2] at hb;exact zbf ha hb
  ·have e:i+1=st.length-1:=by omega
   rw [Z5 (by omega),e] at hb;have:=gV 0 (by omega)
   rw [Nat.add_zero] at this;rw [this,l4] at hb;rw [<- e] at l1;cases hb;exact zbf ha l1
 ·right
  obtain⟨j,rfl⟩:∃ j,i=(st.length-1)+j:=⟨i-(st.length-1),by omega⟩
  rw [gV j (by omega)] at ha;by_cases c2:j+1<su.length-1
  ·rw [Z5 (by omega),Nat.add_assoc,gV (j+1) c2] at hb;exact zbf ha hb
  ·have e:j+1=su.length-1:=by omega
   have em:(st.length-1+j+1)%(st.length-1+(su.length-1))=0:=by
    rw [show st.length-1+j+1=st.length-1+(su.length-1) by omega];exact K0 _
   rw [em,gU 0 (by omega),l2] at hb;rw [<- e] at l3;cases hb;exact zbf ha l3
theorem zgs {st:List Pt} {c:Pt} (h:c∈st.reverse.dropLast):c∈st:=by
 have:=(Jj _).subset h
 simpa using this
theorem zdt {st:List Pt} (nd:st.Nodup) {t:Pt} (h:st.head? = some t):t∉st.reverse.dropLast:=by
 cases st with
 | nil=>cases h
 | cons a r=>
  cases h;rw [Y6,Gj];intro z;exact (Wa.mp nd).1 (by simpa using z)
theorem yel {l:List Pt} (h:l.Nodup):l.reverse.Nodup:=V8.mpr (h.imp fun k e=>k e.symm)
structure RingOk (l R:List Pt):Prop where
 over:∀ i a b q,R[i]? = some a->R[(i+1)%R.length]? = some b->q∈l->0<=o3 a b q
 strict:∀ i a b c,R[i]? = some a->R[(i+1)%R.length]? = some b->c∈R->c≠a->c≠b->0<o3 a b c
 sub:∀ c∈R,c∈l
 nd:R.Nodup
 first:∀ a,R[0]? = some a->∀ q∈l,q=a\/lt a q
 two:2<=R.length
 big:∀ a b c,a∈l->b∈l->c∈l->o3 a b c≠0->3<=R.length
theorem yhx {x y a b c:Pt} (h:lt x y) (ha:o3 x y a=0) (hb:o3 x y b=0) (hc:o3 x y c=0):o3 a b c=0:=by
 have m:=zbb h;have k:∀ p q:Pt,o3 x y p=0->o3 x y q=0->cr (sb y x) (sb q p)=0:=fun p q h1 h2=>by
  have e:cr (sb y x) (sb q p)=o3 x y q-o3 x y p:=by unfold o3 cr sb;grind
  rw [e,h1,h2];rfl
 exact zjt m (by rw [zdf,k a b ha hb];rfl) (k a c ha hc)
theorem ring_ok {l:List Pt} (h:l.Pairwise lt) (h2:2<=l.length):RingOk l (ring l):=by
 refine xl (yjk h h2) fun lo hi E=>?_;have n1:=two_of E.h1 E.h2 E.ne;have n2:=two_of E.h3 E.h4 (Wh E.ne);have inS:∀ c∈ring l,c∈bent [] l\/c∈bent [] l.reverse:=fun c hc=>by
  rcases Yw.mp hc with k | k
  ·exact .inl (zgs k)
  ·exact .inr (zgs k)
 have inl:∀ c∈bent [] l.reverse,c∈l:=fun c hc=>by
  refine xa (Zz.mp (E.b.gu.sub (ng c) (Z6 hc))) fun y hy e=>?_;rw [<- zbx e];exact hy
 have lt_of:∀ {i:Nat} {a:Pt},(ring l)[i]? = some a->i<(ring l).length:=fun e=>(Zl.mp e).1
 have nd2:(bent [] l.reverse).Nodup:=by
  have:=E.b.gu.ch.nodup
  exact (Wy.mp this).imp fun {a b} h e=>h (by rw [e])
 refine⟨fun i a b q ha hb hq=>E.b.over (E.step (lt_of ha) ha hb) hq,fun i a b c ha hb hc ca cb=>E.b.strict (E.step (lt_of ha) ha hb) (inS c hc) ca cb,fun c hc=>?_,?_,fun a ha=>?_,?_,fun a b c ha hb hc ho=>?_⟩
 ·rcases inS c hc with k | k
  ·exact E.b.g.sub c k
  ·exact inl c k
 ·unfold ring;refine Uv.mpr ⟨?_,?_,fun c hc d hd e=>?_⟩
  ·exact (yel E.b.g.ch.nodup).sublist (Jj _)
  ·exact (yel nd2).sublist (Jj _)
  ·subst e;have c1:=zgs hc;have c2:=zgs hd;rcases E.b.inner c1 c2 with k | k
   ·have:c=lo:=zkq (E.b.g.sub c c1) E.lo_l k E.least
    subst this;exact zdt nd2 E.h3 hd
   ·have:c=hi:=zkr (E.b.g.sub c c1) E.hi_l k E.most
    subst this;exact zdt E.b.g.ch.nodup E.h1 hc
 ·have:(ring l)[0]? = some lo:=by
   unfold ring;rw [Z2 (by simp;omega),Jg,if_pos (by simp;omega)];exact zdd E.h2
  rw [this] at ha;cases ha;exact E.least
 ·unfold ring;simp;omega
 ·by_cases hbig:3<=(ring l).length
  ·exact hbig
  ·exfalso
   have len:(ring l).length=((bent [] l).length-1)+((bent [] l.reverse).length-1):=by unfold ring;simp
   have e1:(bent [] l).length=2:=by omega
   have e2:(bent [] l.reverse).length=2:=by omega
   have d1:Edge lo hi (bent [] l):=by
    refine zbf (i:=0) (zdd E.h2) ?_;have:=zgt E.h1
    rw [e1] at this;exact this
   have d2:Edge hi lo (bent [] l.reverse):=by
    refine zbf (i:=0) (zdd E.h4) ?_;have:=zgt E.h3
    rw [e2] at this;exact this
   have z:∀ q∈l,o3 lo hi q=0:=fun q hq=>by
    have k1:=E.b.over (.inl d1) hq;have k2:=E.b.over (.inr d2) hq;have e:o3 hi lo q = - o3 lo hi q:=by unfold o3 cr sb;grind
    omega
   have hlt:lt lo hi:=by
    rcases E.least hi E.hi_l with k | k
    ·exact absurd k.symm E.ne
    ·exact k
   exact ho (yhx hlt (z a ha) (z b hb) (z c hc))
end Hu
namespace DL
open Sf
noncomputable def fr (x:Rat):D:=.tup [.int x.num,.int (x.den:Int)]
theorem ixf0 {z:Rat}:ixD (fr z) (.int 0)=some (.int z.num):=rfl
theorem ixf1 {z:Rat}:ixD (fr z) (.int 1)=some (.int (z.den:Int)):=rfl
theorem lff {z:Rat}:lf (fr z)=true:=rfl
local macro_rules | `(tactic| walk_at "evh")=>do
 let l ← ("run_eq yiy zrw yac yab ex_asg asgO_s ex_unp unpO_s ex_par parO_s ex_ret retO_s yja yha ygz ex_iff iffO_t iffO_f ex_whl ex_frr forO_s yji ygs ygr ygq ztq ygx ztp ygw yjj yhp yhq evB_eq ev_var ev_int ev_bl ev_non ev_bin ev_neg ev_cmp ev_and ev_or ev_not ev_tup ev_lst ev_ix ev_sl yjg ev_bi ev_isi isiW_i isiW_b isiW_t isiW_l isiW_n isxW_n ex_app appO_s ex_pop popO_s ex_clr clrO_s yiz ygp ev_fm ev_lcp lcpW zsv blkR id_eq zyr zyq zch setE_0 setE_s yjf yje yjh ycg ych seqB_l seqB_t seqB_o seqD zxt zrx yjd yjc evd evb bin2_s un1_s andO_t andO_f orO_t orO_f appL_s yjp slO_s cmpW ixW negW notW_s tupW lstW varD_0 varD_s zzp zug zjl zjk zgz zll zcv ykr yks ykq after lfW lf lfL Wd_v Wd_n Wb_v Wb_n Bd_s Bd_o DL.op_add DL.op_sub DL.op_mul DL.op_fdiv DL.op_mod zlc ycf zdy zah op_p6 op_p9 op_p18 eqL eqD dOkL dOk beq_self_eq_true Ul op_p64 Int.reduceEq Int.reduceLT Int.reduceLE Int.reduceNeg Int.reduceAdd Int.reduceSub Int.reduceMul Int.reduceToNat Int.reducePow Int.reduceMod Int.reduceDiv cs0 cs1 cs2 cs3 cs4 cs5 cs6 cs7 cs8 cs9 cs10 cs11 cs12 Nat.reduceSub cm_lt cm_le cm_gt cm_ge cm_eq cm_ne cm_eqB cm_neB cm_eqT cm_eqL cm_in yfl cm_isN yjx biW lenW absW minW maxW ixD_t ixD_l ixf0 ixf1 lff slD_l yjm dInt_s isTy znr Zv Wn Q0 Wb Wk Zj Yb List.getElem?_cons_zero Kc List.set_cons_zero List.set_cons_succ Yq G4 Yd Uu List.replicate if_true if_false Nat.reduceAdd Nat.reduceLT Nat.reduceLeDiff Zx reduceCtorEq decide_true decide_false Jc Ue V3 V2 Bool.and_false Bool.false_and ne_eq not_false_eq_true and_self and_true true_and Nat.reduceEqDiff Nat.zero_ne_one Nat.one_ne_zero sl0 sl2 sl3 at1_0 at2_0 at2_1 at3_0 at3_1 at3_2 at4_0 at4_1 at4_2 at4_3 at5_0 at5_1 at5_2 at5_3 at5_4 at6_0 at6_1 at6_2 at6_3 at6_4 at6_5 ev_idx".splitOn " ").toArray.mapM fun s=>`(Lean.Parser.Tactic.simpLemma| $(Lean.mkIdent s.toName):term)
 `(tactic| simp only [$l,*, *])
open Sf
noncomputable def dTup:D->Option (List D)
 | .tup l=>some l
 | _=>none
noncomputable def dTwo:List D->Option (D×D)
 | [a,b]=>some (a,b)
 | _=>none
theorem dTup_s {d:D} {l:List D} (h:dTup d=some l):d=.tup l:=by cases d <;> first | (cases h;rfl) | (cases h;done)
theorem dTwo_s {l:List D} {p:D×D} (h:dTwo l=some p):l=[p.1,p.2]:=by
 cases l with
 | nil=>cases h
 | cons a l=>
  cases l with
  | nil=>cases h
  | cons b l=>
   cases l with
   | nil=>cases h;rfl
   | cons _ _=>cases h
noncomputable def asFr (d:D):Option Rat:=(dTup d).bind fun l=>(dTwo l).bind fun z=>(dInt z.1).bind fun p=>(dInt z.2).bind fun q=>if 0<q/\Int.gcd p q=1 then some (Rat.divInt p q) else none
theorem zzf (x:Rat):asFr (fr x)=some x:=by
 have f:=zcu x;show (if 0<(x.den:Int)/\Int.gcd x.num (x.den:Int)=1 then some (Rat.divInt x.num (x.den:Int)) else none)=some x;rw [if_pos ⟨f.pos,f.co⟩,Wl]
theorem ziv {d:D} {x:Rat} (h:asFr d=some x):d=fr x:=by
 refine xa (Za.mp h) fun l h1 h=>?_;refine xa (Za.mp h) fun z h2 h=>?_;refine xa (Za.mp h) fun p h3 h=>?_;refine xa (Za.mp h) fun q h4 h=>?_;split at h
 ·rename_i y;cases h;refine xg (rat_of ⟨y.1,y.2⟩) fun a b=>?_;rw [dTup_s h1,dTwo_s h2,zde h3,zde h4];unfold fr;rw [a,b]
 ·cases h
noncomputable def okR (x:Rat):Bool:=decide (x.num.natAbs<2^4400) && decide (x.den<2^4400)
theorem yej {n:Nat} {x:Rat} (h:Sz n x) (k:n<=4400):okR x=true:=by
 have:=h.mono k
 unfold okR;rw [Zm];exact⟨decide_eq_true this.t,decide_eq_true this.b⟩
theorem yei {x:Rat} (h:okR x=true):Sz 4400 x:=by
 unfold okR at h;rw [Zm] at h;exact⟨of_decide_eq_true h.1,of_decide_eq_true h.2⟩
theorem Bv {a b:Int} {m n:Nat} (ha:a.natAbs<2^m) (hb:b.natAbs<2^n) (hm:m<=16000) (hn:n<=16000):B0 a b=true:=by
 unfold B0;rw [Zm];exact⟨decide_eq_true (Zp ha (zdj hm)),decide_eq_true (Zp hb (zdj hn))⟩
theorem zce {b:Int} {n:Nat} (h0:b≠0) (hb:b.natAbs<2^n) (hn:n<=9000):zcy b=true:=by
 unfold zcy;rw [Zm];exact⟨decide_eq_true h0,decide_eq_true (Zp hb (zdj hn))⟩
section
variable {Γ:Nat->List D->Option W}
noncomputable def zab:List D->Option W
 | [.int a,.int b]=>some (.val (.int (gc a b)))
 | _=>none
theorem zuf (a b:Option B):∀ (m:Nat) (n:Nat),n<=m->∀ (g:Int) (r:Option B),0<=g->∃ r',zaa (evB Γ (.cmp .ne (.var 3) (.int 0))) (exs Γ (.cons (.asg 4 (.bin .mod (.var 2) (.var 3))) (.cons (.asg 2 (.var 3)) (.cons (.asg 3 (.var 4)) .nil)))) (m+1)
  [a,b,some (.sh (.int g)),some (.sh (.int (n:Int))),r]=some (.nx [a,b,some (.sh (.int (gc g n))),some (.sh (.int 0)),r']):=by
 intro m;induction m with
 | zero=>
  intro n hn g r hg;obtain rfl:n=0:=by omega
  refine⟨r,?_⟩
  unfold zaa;walk_at "evh"
  simp [zky hg]
 | succ m ih=>
  intro n hn g r hg;unfold zaa;walk_at "evh"
  by_cases h0:n=0
  ·subst h0;refine⟨r,?_⟩
   simp [zky hg]
  ·have h1:¬ ((n:Int)=0):=by omega
   simp only [h1,decide_false,Ue,if_false];walk_at "evh"
   have e:g.fmod (n:Int)=((g%(n:Int)).toNat:Int):=by
    rw [Qr _ (by omega)];have:=Yc g h1
    omega
   have l:(g%(n:Int)).toNat<=m:=by
    have:=Yj g (show (0:Int)<n by omega)
    have:=Yc g h1
    omega
   refine xb (ih _ l (n:Int) (some (.sh (.int ((g%(n:Int)).toNat:Int)))) (by omega)) fun r' q=>?_;refine⟨r',?_⟩
   rw [e,q];have e2:(((g%(n:Int)).toNat:Nat):Int)=g%n:=by have:=Yc g h1;omega
   rw [e2,zpl]
theorem zhb (b:Int):(if b<0 then -b else b)=((b.natAbs:Nat):Int):=by split <;> omega
theorem ok_divisor:∀ ds w,ds.length=2->zab ds=some w->run Γ zey 5 ds=some w:=by
 intro ds w _ h;unfold zab at h;split at h
 ·rename_i a b _;cases h;unfold zey;walk_at "evh"
  refine xb (zuf (Γ:=Γ) (some (.sh (.int a))) (some (.sh (.int b))) b.natAbs b.natAbs (Zh _) (if a<0 then -a else a) none (by split <;> omega)) fun r' q=>?_;rw [zhb b,zcz q];walk_at "evh"
  rw [<- zhb b,yez]
 ·cases h
theorem zjy:∀ (m:Nat) (n:Nat),n<=m->∀ (g:Int),0<=g->zaa (evB Γ (.cmp .gt (.var 1) (.int 0))) (exs Γ (.cons (.par 0 1 (.var 1) (.bin .mod (.var 0) (.var 1))) .nil)) (m+1)
  [some (.sh (.int g)),some (.sh (.int (n:Int)))]=some (.nx [some (.sh (.int (gc g n))),some (.sh (.int 0))]):=by
 intro m;induction m with
 | zero=>
  intro n hn g hg;obtain rfl:n=0:=by omega
  unfold zaa;walk_at "evh"
  simp [zky hg]
 | succ m ih=>
  intro n hn g hg;unfold zaa;walk_at "evh"
  by_cases h0:n=0
  ·subst h0;simp [zky hg]
  ·have h1:¬ ((n:Int)=0):=by omega
   have h2:(0:Int)<n:=by omega
   simp only [h1,h2,decide_true,if_false];walk_at "evh"
   have e:g.fmod (n:Int)=((g%(n:Int)).toNat:Int):=by
    rw [Qr _ (by omega)];have:=Yc g h1
    omega
   have l:(g%(n:Int)).toNat<=m:=by
    have:=Yj g (show (0:Int)<n by omega)
    have:=Yc g h1
    omega
   have q:=ih _ l (n:Int) (by omega);have e2:(((g%(n:Int)).toNat:Nat):Int)=g%n:=by have:=Yc g h1;omega
   rw [e2] at q;first
    | (rw [e,e2,q,zpl])
    | (rw [q,zpl])
theorem ok_law_divisor:∀ ds w,ds.length=2->zab ds=some w->run Γ zbt 2 ds=some w:=by
 intro ds w _ h;unfold zab at h;split at h
 ·rename_i a b _;cases h;unfold zbt;walk_at "evh"
  have q:=zjy (Γ:=Γ) b.natAbs b.natAbs (Zh _) (if a<0 then -a else a) (by split <;> omega);rw [zhb b,zcz q];walk_at "evh"
  rw [<- zhb b,yez]
 ·cases h
end
set_option exponentiation.threshold 20000
open Sf
theorem zcn {a b:Int}:zab [.int a,.int b]=some (.val (.int (gc a b))):=rfl
section
variable {Γ:Nat->List D->Option W}
noncomputable def zan:List D->Option W
 | [.int t,.int b]=>if b≠0/\b.natAbs<2^9000 then some (.val (fr (Rat.divInt t b))) else none
 | _=>none
theorem yiw {t b:Int} (h:b≠0):(gc t b).natAbs<=b.natAbs:=by
 have:=Qd t b
 exact zaj this h
theorem zrz {t b:Int} (h:b≠0) (hb:b.natAbs<2^9000):zcy (gc t b)=true/\zcy (-(gc t b))=true:=by
 have p:=zif (a:=t) h;have l:=yiw (t:=t) h;exact⟨zce (n:=9000) (by omega) (by omega) (Zh _),zce (n:=9000) (by omega) (by rw [Int.natAbs_neg];omega) (Zh _)⟩
theorem yfc {t b:Int} (h:b≠0):fr (Rat.divInt t b)=.tup [.int (low1 t b),.int (low2 t b)]:=by
 refine xg (yil (t:=t) h) fun a c=>?_;unfold fr;rw [a,c]
theorem ok_ratio (h0:Γ 0=zab):∀ ds w,ds.length=2->zan ds=some w->run Γ zlr 3 ds=some w:=by
 intro ds w _ h;unfold zan at h;split at h
 ·rename_i t b _;split at h
  ·rename_i z;cases h;unfold zlr;walk_at "evh"
   try simp only [z.1,decide_false]
   try walk_at "evh"
   simp only [h0,zcn];walk_at "evh"
   refine xg (zrz (t:=t) z.1 z.2) fun g1 g2=>?_;rw [yfc z.1];unfold low1 low2 by_;by_cases hb:b<0
   ·simp only [hb,decide_true];walk_at "evh"
    try simp only [g2]
    try walk_at "evh"
   ·simp only [hb,decide_false];walk_at "evh"
    try simp only [g1]
    try walk_at "evh"
  ·cases h
 ·cases h
noncomputable def fr2 (C:Rat->Rat->Bool) (g:Rat->Rat->D):List D->Option W
 | [a,b]=>match asFr a,asFr b with
  | some x,some y=>if C x y=true then some (.val (g x y)) else none
  | _,_=>none
 | _=>none
theorem zlb {C:Rat->Rat->Bool} {g:Rat->Rat->D} {ds:List D} {w:W} (h:fr2 C g ds=some w):∃ x y,ds=[fr x,fr y]/\C x y=true/\w=.val (g x y):=by
 unfold fr2 at h;split at h
 ·split at h
  ·rename_i x y hx hy;split at h
   ·rename_i z;cases h;exact⟨x,y,by rw [ziv hx,ziv hy],z,rfl⟩
   ·cases h
  ·cases h
 ·cases h
theorem zfv {C:Rat->Rat->Bool} {g:Rat->Rat->D} {x y:Rat} (h:C x y=true):fr2 C g [fr x,fr y]=some (.val (g x y)):=by
 unfold fr2;simp only [zzf,h,if_true]
noncomputable def okRR (x y:Rat):Bool:=okR x && okR y
theorem zda {m n:Nat} {x y:Rat} (hx:Sz m x) (hy:Sz n y) (hm:m<=4400) (hn:n<=4400):okRR x y=true:=by
 unfold okRR;rw [yej hx hm,yej hy hn];rfl
theorem zpb {x y:Rat} (h:okRR x y=true):Sz 4400 x/\Sz 4400 y:=by
 unfold okRR at h;rw [Zm] at h;exact⟨yei h.1,yei h.2⟩
noncomputable def zfi:List D->Option W:=fr2 okRR fun x y=>fr (x+y)
noncomputable def zhz:List D->Option W:=fr2 okRR fun x y=>fr (x-y)
noncomputable def zhx:List D->Option W:=fr2 okRR fun x y=>fr (x*y)
theorem zam (x:Rat):(0:Int)<x.den:=(zcu x).pos
theorem ok_plus (h0:Γ 0=zab):∀ ds w,ds.length=2->zfi ds=some w->run Γ zsj 5 ds=some w:=by
 intro ds w _ h;refine xc (zlb h) fun x y qz2 hC qz4=>?_;subst qz2;subst qz4
 refine xg (zpb hC) fun sx sy=>?_;have px:=zam x;have py:=zam y;have hne:(y.den:Int)≠0:=by omega
 have gp:=zif (a:=(x.den:Int)) hne;have gl:=yiw (t:=(x.den:Int)) hne;have e1:((y.den:Int)).natAbs=y.den:=Yt _;have d1:zcy (gc x.den y.den)=true:=zce (n:=4400) (by omega) (by have:=sy.b;omega) (by decide);have hle:∀ {p s:Int},0<s->(p.fdiv s).natAbs<=p.natAbs:=fun {p s} hs=>by
  rw [Kw _ (Ws hs)];have:=Int.natAbs_ediv_le_natAbs p s
  exact this
 have l1:=hle (p:=(y.den:Int)) gp;have l2:=hle (p:=(x.den:Int)) gp;have e2:((x.den:Int)).natAbs=x.den:=Yt _;have m1:B0 x.num ((y.den:Int).fdiv (gc x.den y.den))=true:=Bv sx.t (n:=4400) (by have:=sy.b;omega) (by decide) (by decide);have m2:B0 y.num ((x.den:Int).fdiv (gc x.den y.den))=true:=Bv sy.t (n:=4400) (by have:=sx.b;omega) (by decide) (by decide);have hne2:gc (x.den:Int) y.den≠0:=by omega
 have rp:=zif (a:=addT x.num x.den y.num y.den) hne2;have rl:=yiw (t:=addT x.num x.den y.num y.den) hne2;have d2:zcy (gc (addT x.num x.den y.num y.den) (gc x.den y.den))=true:=zce (n:=4400) (by omega) (by have:=sy.b;omega) (by decide);have l3:=hle (p:=(y.den:Int)) rp;have m3:B0 ((x.den:Int).fdiv (gc x.den y.den)) ((y.den:Int).fdiv (gc (addT x.num x.den y.num y.den) (gc x.den y.den)))=true:=Bv (m:=4400) (n:=4400) (by have:=sx.b;omega) (by have:=sy.b;omega) (by decide) (by decide);refine xg (ykt x y) fun q1 q2=>?_;have eT:x.num*(y.den:Int).fdiv (gc x.den y.den)+y.num*(x.den:Int).fdiv (gc x.den y.den)=addT x.num x.den y.num y.den:=rfl;have hd:=@zcn;clear hC h px py sx sy hne gp gl hne2 rp rl l1 l2 l3 hle;unfold zsj;simp only [fr];walk_at "evh"
 rfl
theorem ok_minus (h9:Γ 9=zfi):∀ ds w,ds.length=2->zhz ds=some w->run Γ zls 2 ds=some w:=by
 intro ds w _ h;refine xc (zlb h) fun x y qz2 hC qz4=>?_;subst qz2;subst qz4
 refine xg (zpb hC) fun sx sy=>?_;unfold zls;simp only [fr];walk_at "evh"
 have e:(D.tup [.int (-y.num),.int (y.den:Int)])=fr (-y):=rfl;have e2:(D.tup [.int x.num,.int (x.den:Int)])=fr x:=rfl;have q:zfi [fr x,fr (-y)]=some (.val (fr (x + -y))):=zfv (zda sx sy.neg (Zh _) (Zh _));simp only [h9,e,e2,q];walk_at "evh"
 rw [G3];rfl
theorem ok_times (h1:Γ 1=zan):∀ ds w,ds.length=2->zhx ds=some w->run Γ zlq 2 ds=some w:=by
 intro ds w _ h;refine xc (zlb h) fun x y qz2 hC qz4=>?_;subst qz2;subst qz4
 refine xg (zpb hC) fun sx sy=>?_;have px:=zam x;have py:=zam y;have m1:B0 x.num y.num=true:=Bv sx.t sy.t (by decide) (by decide);have m2:B0 (x.den:Int) y.den=true:=Bv (m:=4400) (n:=4400) (by rw [Yt];exact sx.b) (by rw [Yt];exact sy.b) (by decide) (by decide);have hb:((x.den:Int)*y.den).natAbs<2^9000:=by
  rw [Q4,Yt,Yt];exact Zp (zhv sx.b sy.b) (zdj (by decide))
 have hne:(x.den:Int)*y.den≠0:=Yx (by omega) (by omega);unfold zlq;simp only [fr];walk_at "evh"
 try simp only [m1,m2]
 try walk_at "evh"
 have q:zan [.int (x.num*y.num),.int ((x.den:Int)*y.den)]=some (.val (fr (x*y))):=by
  show (if _ then _ else _)=_;rw [if_pos ⟨hne,hb⟩,<- zwg]
 simp only [h1,q];walk_at "evh"
 rfl
end
set_option exponentiation.threshold 20000
open Sf
section
variable {Γ:Nat->List D->Option W}
noncomputable def zct:List D->Option W
 | [.lst l,.int k]=>if k<l.length then (L2.atI l k).map W.val else some (.val (.int 0))
 | _=>none
theorem ok_law_cell_at:∀ ds w,ds.length=2->zct ds=some w->run Γ zbu 2 ds=some w:=by
 intro ds w _ h;unfold zct at h;split at h
 ·rename_i l k _;unfold zbu;walk_at "evh"
  split at h
  ·rename_i z;refine xa (Zb.mp h) fun d hd e=>?_;subst e;walk_at "evh"
  ·rename_i z;cases h;walk_at "evh"
 ·cases h
noncomputable def isInt:D->Bool
 | .int _=>true
 | _=>false
noncomputable def znj:List D->Option W
 | [.exc _]=>none
 | [d]=>some (.val (.bl (isInt d)))
 | _=>none
theorem ok_law_whole:∀ ds w,ds.length=1->znj ds=some w->run Γ zcx 1 ds=some w:=by
 intro ds w _ h;unfold znj at h;split at h
 ·cases h
 ·rename_i d hd _;cases h;unfold zcx;cases d with
  | exc x=>exact absurd rfl (hd x)
  | _=>walk_at "evh"; rfl
 ·cases h
theorem ybm {i:Int}:znj [.int i]=some (.val (.bl true)):=rfl
theorem ok_law_lowest (h12:Γ 12=zab):∀ ds w,ds.length=2->zan ds=some w->run Γ zci 3 ds=some w:=by
 intro ds w _ h;unfold zan at h;split at h
 ·rename_i t b _;split at h
  ·rename_i z;cases h;refine xg (zrz (t:=t) z.1 z.2) fun g1 g2=>?_;have g3:(0:Int)-gc t b = -(gc t b):=by omega
   rw [yfc z.1];unfold low1 low2 by_ zci;have hd:=@zcn;by_cases hb:b<0
   ·walk_at "evh"
   ·walk_at "evh"
  ·cases h
 ·cases h
noncomputable def znl:List D->Option W
 | [d]=>match asFr d with
  | some x=>some (.val (.bl true))
  | none=>none
 | _=>none
theorem zrg (x:Rat):znl [fr x]=some (.val (.bl true)):=by
 unfold znl;simp only [zzf]
theorem ok_law_is_fraction (h3:Γ 3=znj) (h12:Γ 12=zab):∀ ds w,ds.length=1->znl ds=some w->run Γ zar 1 ds=some w:=by
 intro ds w _ h;unfold znl at h;split at h
 ·split at h
  ·rename_i x hx;cases h;have hd:=@zcn;have hw:=@ybm;have hp:=zam x;have e1:gc x.num x.den=1:=by
    show ((Int.gcd x.num x.den:Nat):Int)=1;rw [(zcu x).co];rfl
   rw [ziv hx];clear hx;unfold zar;simp only [fr];walk_at "evh"
  ·cases h
 ·cases h
end
set_option exponentiation.threshold 20000
open Sf
section
variable {Γ:Nat->List D->Option W}
noncomputable def ok2 (x y:Rat):Bool:=decide (x.num.natAbs<2^2000) && decide (x.den<2^2000) && decide (y.num.natAbs<2^2000) && decide (y.den<2^2000)
theorem Bw {a b:Int} {m n:Nat} (h:a.natAbs<2^m) (k:b.natAbs<2^n):(a*b).natAbs<2^(m+n):=by
 rw [Q4];exact zhv h k
end
set_option exponentiation.threshold 20000
open Sf
section
variable {Γ:Nat->List D->Option W}
theorem zgx {ns:List Int} {k:Nat}:∃ c,zct [.lst (ns.map D.int),.int (k:Int)]=some (.val (.int c)):=by
 unfold zct;by_cases h:k<ns.length
 ·have hk:((k:Int)<((ns.map D.int).length:Nat)):=by rw [Zd];omega
  simp only [hk,if_true];refine⟨ns[k],?_⟩
  rw [L2.atI_nat (v:=.int ns[k]) (by rw [Zk,Ze h];rfl)];rfl
 ·have hk:¬ ((k:Int)<((ns.map D.int).length:Nat)):=by rw [Zd];omega
  simp only [hk,if_false];exact⟨0,rfl⟩
end
open Sf
section
variable {Γ:Nat->List D->Option W}
noncomputable def per (c:Int):Int:=match (c%4).toNat with
 | 0=>1
 | 1=>3
 | 2=>1000000000
 | _=>1000000000000000000
end
open Sf
section
variable {Γ:Nat->List D->Option W}
end
open Sf
section
variable {Γ:Nat->List D->Option W}
end
open Sf
section
variable {Γ:Nat->List D->Option W}
theorem Bq {x:Rat} {n:Nat} (h:Sz n x):((x.den:Int)).natAbs<2^n:=by rw [Yt];exact h.b
theorem num_zero {y:Rat}:y.num=0↔y=0:=Rat.num_eq_zero
end
open Sf
section
variable {Γ:Nat->List D->Option W}
theorem zdg {α:Type} {l:List α} {i:Int} (h0:0<=i) (h1:i<l.length):L2.atI l i=l[i.toNat]?:=by
 unfold L2.atI L2.ixN;rw [if_pos h0,if_pos h1,Yd]
theorem zpx {α:Type} {l:List α} {i:Int} (h0:i<0) (h1 : -(l.length:Int)<=i):L2.atI l i=l[(i+l.length).toNat]?:=by
 unfold L2.atI L2.ixN;rw [if_neg (by omega),if_pos h1,Yd]
theorem zza {ns:List Int} {i:Int} (h0:0<=i) (h1:i<ns.length):∃ c,L2.atI (ns.map D.int) i=some (.int c):=by
 rw [zdg h0 (by rw [Zd];exact h1)];have h:i.toNat<ns.length:=by omega
 exact⟨ns[i.toNat],by rw [Zk,Ze h];rfl⟩
noncomputable def zfs:List D->Option W:=run (tab []) zbg 4
theorem ok_law_block:∀ ds w,ds.length=2->zfs ds=some w->run Γ zbg 4 ds=some w:=fun ds w _ h=>zcb [] (fun p hp=>by cases hp) (by decide) ds w h
theorem zfj (s k:Option B):∀ (l:List D) (a:Int) (o:Option B),∃ a' o',forN (B5 (.name 3)) (exs Γ (.cons (.asg 2 (.bin .fdiv (.var 2) (.int 2147483587))) .nil)) l [s,k,some (.sh (.int a)),o]=some (.nx [s,k,some (.sh (.int a')),o'])
 | [],a,o=>⟨a,o,rfl⟩
 | d::l,a,o=>by
  refine xl (zfj s k l (a/2147483587) (some (.sh d))) fun a' o' q=>?_;refine⟨a',o',?_⟩
  unfold forN;walk_at "evh"
theorem zyo (ns:List Int) (k:Nat):∃ r:Int,run Γ zbg 4 [.lst (ns.map D.int),.int (k:Int)]=some (.val (.int r)):=by
 have hk0:(0:Int)<=(k:Int):=by omega
 have e8:=Yc (k:Int) (show (8:Int)≠0 by decide);have e8':=Yj (k:Int) (show (0:Int)<8 by decide);have e62:=Yc ((k:Int)/8) (show (62:Int)≠0 by decide);have hr:(-4611686018427387904<=(k:Int)%8/\(k:Int)%8<4611686018427387904)=True:=eq_true (by omega);unfold zbg;by_cases z:1+(k:Int)/8%62<(ns.length:Int)
 ·refine xb (zza (ns:=ns) (i:=1+(k:Int)/8%62) (by omega) z) fun c hc=>?_;refine xl (zfj (Γ:=Γ) (some (.sh (.lst (ns.map D.int)))) (some (.sh (.int (k:Int)))) (zag 0 ((k:Int)%8).toNat) (c/10000000000000000000000000000000000000000000000000000000000000000) none) fun a' o' q=>?_;refine⟨a',?_⟩
  have zz:decide (1+(k:Int)/8%62<((ns.map D.int).length:Int))=true:=by rw [Zd];exact decide_eq_true z
  clear e8 e8' e62 hk0 z;walk_at "evh"
 ·refine xl (zfj (Γ:=Γ) (some (.sh (.lst (ns.map D.int)))) (some (.sh (.int (k:Int)))) (zag 0 ((k:Int)%8).toNat) 0 none) fun a' o' q=>?_;refine⟨a',?_⟩
  have zz:decide (1+(k:Int)/8%62<((ns.map D.int).length:Int))=false:=by rw [Zd];exact decide_eq_false z
  clear e8 e8' e62 hk0 z;walk_at "evh"
noncomputable def zby:List D->Option W:=run (tab [(28,zfs)]) zae 4
theorem ok_law_mixed (h28:Γ 28=zfs):∀ ds w,ds.length=2->zby ds=some w->run Γ zae 4 ds=some w:=fun ds w _ h=>zcb [(28,zfs)] (by intro p hp;rcases Zt.mp hp with rfl;exact h28) (by decide) ds w h
noncomputable abbrev bMx:Ss:=(.cons (.asg 3 (.bin .add (.bin .mod (.var 2) (.bin .pow (.int 10) (.int 18))) (.bin .mul (.int 48271) (.bin .add (.var 1) (.int 1))))) (.cons (.asg 3 (.bin .add (.bin .mod (.bin .mul (.var 3) (.var 3)) (.int 2147483629)) (.bin .mul (.int 69621) (.var 1)))) (.cons (.ret (.bin .mod (.bin .mul (.var 3) (.var 3)) (.int 2147483587))) .nil)))
noncomputable abbrev bMy:Ss:=(.cons (.iff (.cmp .gt (.bi .len (.cons (.var 0) .nil)) (.int 0)) (.cons (.asg 2 (.ix (.var 0) (.bin .mod (.var 1) (.bi .min (.cons (.int 63) (.cons (.bi .len (.cons (.var 0) .nil)) .nil)))))) .nil) .nil) bMx)
theorem yeo {x:Int} (h0:0<=x) (h1:x<2000000000000000000):B0 x x=true:=zah (by omega) (by omega) (by omega) (by omega)
theorem zrd {a b:Int} (h0:0<=b) (h1:b<=1001) (h2:0<=a) (h3:a<=100000):B0 a b=true:=zah (by omega) (by omega) (by omega) (by omega)
theorem yen {c k a M:Int} (h0:0<=k) (h1:k<=1001) (ha:0<=a) (hb:a<=100000) (hM:0<M) (hN:M<=1000000000000000000):0<=c%M+a*k/\c%M+a*k<2000000000000000000:=by
 have a0:=Yc c (show M≠0 by omega);have a1:=Yj c hM;have p0:=Q5 ha h0;have p1:a*k<=100000*1001:=Int.mul_le_mul hb h1 h0 (by decide);omega
theorem znh (L:D) {k:Int} (h0:0<=k) (h1:k<=1000) (c:Int):∃ r:Int,exs Γ bMx [some (.sh L),some (.sh (.int k)),some (.sh (.int c)),none]=some (.rt (.val (.int r)))/\0<=r/\r<2147483587:=by
 have s1:=yen (c:=c) (k:=k+1) (a:=48271) (M:=1000000000000000000) (by omega) (by omega) (by decide) (by decide) (by decide) (by decide);have m1:B0 48271 (k+1)=true:=zrd (by omega) (by omega) (by decide) (by decide);have m2:=yeo s1.1 s1.2;have m3:B0 69621 k=true:=zrd h0 (by omega) (by decide) (by decide);generalize hq:(c%1000000000000000000+48271*(k+1))*(c%1000000000000000000+48271*(k+1))=q1;have s2:=yen (c:=q1) (k:=k) (a:=69621) (M:=2147483629) h0 (by omega) (by decide) (by decide) (by decide) (by decide);have m4:=yeo s2.1 s2.2;refine⟨(q1%2147483629+69621*k)*(q1%2147483629+69621*k)%2147483587,?_,Yc _ (by decide),Yj _ (by decide)⟩
 clear s1 s2 h0 h1;unfold bMx;walk_at "evh"
theorem zwl {L:List D} {k m c n0:Int} {o:Out} (gt:decide ((0:Int)<(L.length:Int))=true) (hm:(if (L.length:Int)<63 then (L.length:Int) else 63)=m) (hmz:(m=0)=False) (fm:k.fmod m=k%m) (hc:L2.atI L (k%m)=some (.int c)) (h:exs Γ bMx [some (.sh (.lst L)),some (.sh (.int k)),some (.sh (.int c)),none]=some o):exs Γ bMy [some (.sh (.lst L)),some (.sh (.int k)),some (.sh (.int n0)),none]=some o:=by
 unfold bMy;generalize bMx=bd at *;walk_at "evh"
theorem zwk {φ:List D->Option W} (h28:Γ 28=φ) {k b r:Int} (hb:φ [.lst [],.int k]=some (.val (.int b))) (h:exs Γ bMx [some (.sh (.lst [])),some (.sh (.int k)),some (.sh (.int 0)),none]=some (.rt (.val (.int r)))):run Γ zae 4 [.lst [],.int k]=some (.val (.int r)):=by
 unfold bMx at h;unfold zae;walk_at "evh"
theorem zwj {φ:List D->Option W} (h28:Γ 28=φ) {L:List D} {k b n0:Int} (gt:decide ((0:Int)<(L.length:Int))=true) (a0:L2.atI L 0=some (.int n0)) (hb:φ [.lst L,.int k]=some (.val (.int b))) (z:n0/1000000%2=1) (z2:¬ b=0):run Γ zae 4 [.lst L,.int k]=some (.val (.int (b%2147483587))):=by
 unfold zae;walk_at "evh"
theorem zwi {φ:List D->Option W} (h28:Γ 28=φ) {L:List D} {k b n0 r:Int} (gt:decide ((0:Int)<(L.length:Int))=true) (a0:L2.atI L 0=some (.int n0)) (hb:φ [.lst L,.int k]=some (.val (.int b))) (z:n0/1000000%2=1->b=0) (h:exs Γ bMy [some (.sh (.lst L)),some (.sh (.int k)),some (.sh (.int n0)),none]=some (.rt (.val (.int r)))):run Γ zae 4 [.lst L,.int k]=some (.val (.int r)):=by
 unfold bMy bMx at h;unfold zae;by_cases y:n0/1000000%2=1
 ·have e:=z y;subst e;clear z;rw [run_eq,zrw];walk_at "evh"
 ·clear z;walk_at "evh"
theorem zei (ns:List Int) (k:Nat) (hk:k<=1000):∃ r:Int,zby [.lst (ns.map D.int),.int (k:Int)]=some (.val (.int r))/\0<=r/\r<2147483587:=by
 unfold zby;generalize hΓ:tab [(28,zfs)]=Γ;have h28:Γ 28=zfs:=by rw [<- hΓ];rfl
 refine xb (zyo (Γ:=tab []) ns k) fun b hb=>?_;have hb:zfs [.lst (ns.map D.int),.int (k:Int)]=some (.val (.int b)):=hb;have k0:(0:Int)<=(k:Int):=K3 _;have k1:(k:Int)<=1000:=by omega
 clear hΓ;cases ns with
 | nil=>
  refine xa (znh (Γ:=Γ) (.lst []) k0 k1 0) fun r h1 h2=>?_;exact⟨r,zwk h28 hb h1,h2⟩
 | cons n0 ns=>
  have hl:((n0::ns).map D.int).length=ns.length+1:=by rw [Zd,Zj]
  have gt:decide ((0:Int)<(((n0::ns).map D.int).length:Int))=true:=decide_eq_true (by rw [hl];omega);have a0:L2.atI ((n0::ns).map D.int) 0=some (.int n0):=by
   rw [zdg (Je _) (by rw [hl];omega)];rfl
  by_cases z:n0/1000000%2=1 /\ ¬ b=0
  ·exact⟨_,zwj h28 gt a0 hb z.1 z.2,Yc _ (by decide),Yj _ (by decide)⟩
  ·have z':n0/1000000%2=1->b=0:=fun y=>Yn fun w=>z ⟨y,w⟩
   obtain⟨m,hm⟩:∃ m:Int,(if (((n0::ns).map D.int).length:Int)<63 then (((n0::ns).map D.int).length:Int) else 63)=m:=⟨_,rfl⟩
   have hm2:0<m/\m<=((n0::ns).length:Int):=by
    rw [Zj,<- hm,hl];split
    ·constructor <;> omega
    ·constructor <;> omega
   refine xb (zza (ns:=n0::ns) (i:=(k:Int)%m) (Yc _ (by omega)) (Int.lt_of_lt_of_le (Yj _ hm2.1) hm2.2)) fun c hc=>?_;refine xa (znh (Γ:=Γ) (.lst ((n0::ns).map D.int)) k0 k1 c) fun r h1 h2=>?_;exact⟨r,zwi h28 gt a0 hb z' (zwl gt hm (eq_false (by omega)) (zlc hm2.1) hc h1),h2⟩
end
open Sf
noncomputable def pD (p:Int×Int):D:=.tup [.int p.1,.int p.2]
theorem ybq (p:Int×Int):lf (pD p)=true:=rfl
theorem pD_ix0 {p:Int×Int}:ixD (pD p) (.int 0)=some (.int p.1):=rfl
theorem pD_ix1 {p:Int×Int}:ixD (pD p) (.int 1)=some (.int p.2):=rfl
structure Bd (n:Int) (p:Int×Int):Prop where
 a : -n<=p.1
 b:p.1<=n
 c : -n<=p.2
 d:p.2<=n
structure Pts (ps:List (Int×Int)):Prop where
 three:3<=ps.length
 bd:∀ p∈ps,Bd 2000 p
 left:∃ o p q,o∈ps/\p∈ps/\q∈ps/\0<(p.1-o.1)*(q.2-o.2)-(p.2-o.2)*(q.1-o.1)
theorem Bd.up {p:Int×Int} (h:Bd 1000 p):Bd 2000 p:=by
 obtain⟨a,b,c,d⟩:=h
 exact⟨by omega,by omega,by omega,by omega⟩
theorem Bd.nx {p:Int×Int} {x y:Int} (h:Bd 1000 p) (hx : -2<=x/\x<=2) (hy : -4<=y/\y<=4):Bd 2000 (p.1+x,p.2+y):=by
 obtain⟨a,b,c,d⟩:=h
 exact⟨by show _<=_;omega,by show _<=_;omega,by show _<=_;omega,by show _<=_;omega⟩
theorem em2 (a:Int):0<=a%2/\a%2<2:=by omega
theorem em3 (a:Int):0<=a%3/\a%3<3:=by omega
theorem bdm {n a b:Int} {c:Int} (h0:0<n) (h1:n<=2001) (h2:0<=c) (h3:c<=1000) (h4:n-1-c<=1000):Bd 1000 (a%n-c,b%n-c):=by
 have a0:=Yc a (show n≠0 by omega);have a1:=Yj a h0;have b0:=Yc b (show n≠0 by omega);have b1:=Yj b h0;exact⟨by show _<=_;omega,by show _<=_;omega,by show _<=_;omega,by show _<=_;omega⟩
theorem left3 {a b x y z:Int} (hx:0<=x) (hy:0<=y) (hz:0<=z):0<(a+1-a)*(b+1+z-b)-(b+x-b)*(a-y-a):=by
 rw [show a+1-a=1 by omega,show b+1+z-b=1+z by omega,show b+x-b=x by omega,show a-y-a = -y by omega,Int.mul_neg,Int.one_mul];have:=Q5 hx hy
 omega
section
variable {Γ:Nat->List D->Option W}
noncomputable def zdb:List D->Option W:=run (tab [(29,zby)]) zbq 10
theorem zfe (h29:Γ 29=zby):∀ ds w,ds.length=3->zdb ds=some w->run Γ zbq 10 ds=some w:=fun ds w _ h=>zcb [(29,zby)] (by intro p hp;rcases Zt.mp hp with rfl;exact h29) (by decide) ds w h
theorem ok_law_points_k14 (h29:Γ 29=zby):∀ ds w,ds.length=3->zdb ds=some w->run Γ zbp 10 ds=some w:=zfe h29
noncomputable abbrev zfo:Ss:=(.cons (.asg 6 (.call 29 (.cons (.var 0) (.cons (.bin .add (.bin .add (.var 1) (.int 2)) (.var 5)) .nil)))) (.cons (.asg 7 (.tup (.cons (.bin .sub (.bin .mod (.var 6) (.int 7)) (.int 3)) (.cons (.bin .sub (.bin .mod (.bin .fdiv (.var 6) (.int 7)) (.int 7)) (.int 3)) .nil)))) (.cons (.iff (.cmp .eq (.var 3) (.int 1)) (.cons (.asg 7 (.tup (.cons (.bin .sub (.bin .mod (.var 6) (.int 2001)) (.int 1000)) (.cons (.bin .sub (.bin .mod (.bin .fdiv (.var 6) (.int 2001)) (.int 2001)) (.int 1000)) .nil)))) .nil) .nil) (.cons (.iff (.cmp .eq (.var 3) (.int 2)) (.cons (.asg 7 (.tup (.cons (.bin .mod (.var 6) (.int 3)) (.cons (.bin .mod (.bin .fdiv (.var 6) (.int 3)) (.int 3)) .nil)))) .nil) .nil) (.cons (.app 4 (.var 7)) .nil)))))
theorem ygj (h29:Γ 29=zby) (ns:List Int) (s way:Int) (k:Nat) (i:Nat) (hs:s+2+(i:Int)=(k:Int)) (hk:k<=1000) (l:List D) (hl:l.length<1000) (m a b c d:Option B) :
  ∃ (p:Int×Int) (a' b':Option B),Bd 1000 p/\exs Γ zfo [some (.sh (.lst (ns.map D.int))),some (.sh (.int s)),m,some (.sh (.int way)),some (.ow l),some (.sh (.int (0+(i:Int)))),a,b,c,d]
   = some (.nx [some (.sh (.lst (ns.map D.int))),some (.sh (.int s)),m,some (.sh (.int way)),some (.ow (l++[pD p])),some (.sh (.int (0+(i:Int)))),a',b',c,d]):=by
 refine xh (zei ns k hk) fun r hr r0 r1=>?_;have hz:(l.length<PySem.sizeLine)=True:=eq_true (by rw [Yr];omega);rw [<- hs] at hr;have e0:(0:Int)+(i:Int)=(i:Int):=by omega
 rw [e0];by_cases w1:way=1
 ·subst w1;refine⟨(r%2001-1000,r/2001%2001-1000),some (.sh (.int r)),some (.sh (.tup [.int (r%2001-1000),.int (r/2001%2001-1000)])),bdm (by decide) (by decide) (by decide) (by decide) (by decide),?_⟩
  clear hs hk hl e0 r0 r1;unfold zfo pD;walk_at "evh"
 ·by_cases w2:way=2
  ·subst w2;refine⟨(r%3,r/3%3),some (.sh (.int r)),some (.sh (.tup [.int (r%3),.int (r/3%3)])),by have:=bdm (n:=3) (a:=r) (b:=r/3) (c:=0) (by decide) (by decide) (by decide) (by decide) (by decide);rw [Int.sub_zero,Int.sub_zero] at this;exact this,?_⟩
   clear hs hk hl e0 r0 r1 w1;unfold zfo pD;walk_at "evh"
  ·refine⟨(r%7-3,r/7%7-3),some (.sh (.int r)),some (.sh (.tup [.int (r%7-3),.int (r/7%7-3)])),bdm (by decide) (by decide) (by decide) (by decide) (by decide),?_⟩
   clear hs hk hl e0 r0 r1;unfold zfo pD;walk_at "evh"
theorem zxa (h29:Γ 29=zby) (ns:List Int) (s:Nat) (way:Int) (hs:s<=500) (m c d:Option B):∀ (is:List Nat) (ps:List (Int×Int)) (o a b:Option B),(∀ i∈is,i<=400)->ps.length+is.length<=400->(∀ p∈ps,Bd 1000 p) ->
  ∃ (qs:List (Int×Int)) (o' a' b':Option B),qs.length=ps.length+is.length/\(∀ p∈qs,Bd 1000 p)/\forN (B5 (.name 5)) (exs Γ zfo) (is.map fun (i:Nat)=>D.int (0+(i:Int))) [some (.sh (.lst (ns.map D.int))),some (.sh (.int (s:Int))),m,some (.sh (.int way)),some (.ow (ps.map pD)),o,a,b,c,d]
   = some (.nx [some (.sh (.lst (ns.map D.int))),some (.sh (.int (s:Int))),m,some (.sh (.int way)),some (.ow (qs.map pD)),o',a',b',c,d])
 | [],ps,o,a,b,_,_,hp=>⟨ps,o,a,b,rfl,hp,rfl⟩
 | i::is,ps,o,a,b,hi,hl,hp=>by
  rw [Zj] at hl;refine xn (ygj h29 ns (s:Int) way (s+2+i) i (by omega) (by have:=hi i (.head _);omega) (ps.map pD) (by rw [Zd];omega) m a b c d) fun p a1 b1 hb he=>?_;obtain⟨qs,o',a',b',q1,q2,q3⟩:=zxa h29 ns s way hs m c d is (ps++[p]) (some (.sh (.int (0+(i:Int))))) a1 b1 (fun j hj=>hi j (.tail _ hj)) (by rw [Zq];simp only [Zj,Yb];omega) (fun x hx=>by
   rcases Yw.mp hx with hx | hx
   ·exact hp x hx
   ·rw [Zt.mp hx];exact hb)
  refine⟨qs,o',a',b',by rw [q1,Zq,Zj];simp only [Zj,Yb];omega,q2,?_⟩
  rw [Zv];unfold forN;simp only [zgz,zjk,zjl,Yq];rw [he];rw [Yk] at q3;exact q3
theorem zlt {α:Type} {l:List α} {k N:Nat} (hl:l.length=N) (h1:1<=k) (h2:k<=N):L2.atI l (-(k:Int))=l[N-k]?:=by
 rw [zpx (by omega) (by omega),hl,show (-(k:Int)+(N:Int)).toNat=N-k by omega]
theorem zyz {α:Type} {l:List α} {i:Nat} (h:i<l.length):L2.atI l ((i:Int)-1)=l[(i+l.length-1)%l.length]?:=by
 rcases Wm i with z | z
 ·subst z;rw [show (((0:Nat):Int)-1) = -((1:Nat):Int) from rfl,zlt rfl (by decide) h,Wf,Z5 (Nat.sub_lt h Nat.one_pos)]
 ·rw [zdg (by omega) (by omega),show ((i:Int)-1).toNat=i-1 by omega,show i+l.length-1=(i-1)+l.length by omega,Qp,Z5 (by omega)]
theorem zrl {k N:Nat} (h1:1<=k) (h2:k<=N):L2.ixN N (-(k:Int))=some (N-k):=by
 unfold L2.ixN;rw [if_neg (by omega),if_pos (by omega),show (-(k:Int)+(N:Int)).toNat=N-k by omega]
theorem yhf (ns:List Int) (s m:Nat) (hs:s<=500) (hm:3<=m) (hm2:m<=100):∃ ps:List (Int×Int),zdb [.lst (ns.map D.int),.int (s:Int),.int (m:Int)]=some (.new (ps.map pD))/\ps.length<=m/\Pts ps:=by
 unfold zdb;generalize hΓ:tab [(29,zby)]=Γ;have h29:Γ 29=zby:=by rw [<- hΓ];rfl
 refine xh (zei ns s (by omega)) fun r hr r0 r1=>?_;refine xh (zei ns (s+1) (by omega)) fun t ht t0 t1=>?_;have e1:(((s+1:Nat)):Int)=(s:Int)+1:=by omega
 rw [e1] at ht;have m0:(0:Int)<(m:Int)-2:=by omega
 have u0:=Yc t (show (m:Int)-2≠0 by omega);have u1:=Yj t m0;generalize hN:(3+t%((m:Int)-2)).toNat=N;have N3:3<=N:=by omega
 have Nm:N<=m:=by omega
 have N2:2<=N:=Uz N3;have N1:1<=N:=Uz N2;obtain⟨qs,o',a',b',q1,q2,q3⟩:=zxa (Γ:=Γ) h29 ns s (r%4) hs (some (.sh (.int (m:Int)))) none none (List.range N) [] none none none (fun i hi=>by have:=Wi.mp hi;omega) (by rw [Yb,Kh];omega) (fun p hp=>by cases hp)
 rw [Yb,Kh,Wf] at q1;have hl:(qs.map pD).length=N:=by rw [Zd,q1]
 obtain⟨p0,hp0⟩:∃ p,qs[0]? = some p:=⟨_,Ze (by omega)⟩
 obtain⟨p1,hp1⟩:∃ p,qs[N-2]? = some p:=⟨_,Ze (by omega)⟩
 obtain⟨p2,hp2⟩:∃ p,qs[N-1]? = some p:=⟨_,Ze (by omega)⟩
 have A0:L2.atI (qs.map pD) 0=some (pD p0):=by
  rw [zdg (Je _) (by omega),Zk];show ((qs[0]?).map pD)=_;rw [hp0];rfl
 have A1:L2.atI (qs.map pD) (-2)=some (pD p1):=by
  rw [show (-2:Int) = -((2:Nat):Int) from rfl,zlt hl (by decide) N2,Zk,hp1];rfl
 have I1:L2.ixN (qs.map pD).length (-2)=some (N-2):=by
  rw [hl];exact zrl (k:=2) (by decide) N2
 have d0:=q2 p0 (Zn hp0);have d1:=q2 p1 (Zn hp1);have d2:=q2 p2 (Zn hp2);generalize hx1:p1.2%2=x1;generalize hx2:p2.1%2=x2;generalize hx3:p2.2%3=x3;have y1:0<=x1/\x1<2:=by rw [<- hx1];exact em2 _
 have y2:0<=x2/\x2<2:=by rw [<- hx2];exact em2 _
 have y3:0<=x3/\x3<3:=by rw [<- hx3];exact em3 _
 have hl2:((qs.map pD).set (N-2) (.tup [.int (p0.1+1),.int (p0.2+x1)])).length=N:=by rw [Wc,hl]
 have A2:L2.atI ((qs.map pD).set (N-2) (.tup [.int (p0.1+1),.int (p0.2+x1)])) (-1)=some (pD p2):=by
  rw [show (-1:Int) = -((1:Nat):Int) from rfl,zlt hl2 (by decide) N1,Ym (by omega),Zk,hp2];rfl
 have I2:L2.ixN ((qs.map pD).set (N-2) (.tup [.int (p0.1+1),.int (p0.2+x1)])).length (-1)=some (N-1):=by
  rw [hl2];exact zrl (k:=1) (by decide) N1
 refine⟨(qs.set (N-2) (p0.1+1,p0.2+x1)).set (N-1) (p0.1-x2,p0.2+1+x3),?_,by rw [Wc,Wc];omega,⟨by rw [Wc,Wc];omega,fun p hp=>?_,p0,(p0.1+1,p0.2+x1),(p0.1-x2,p0.2+1+x3),?_,?_,?_,?_⟩⟩
 ·rw [List.map_set,List.map_set];have hr4:(-4611686018427387904<=3+t%((m:Int)-2)/\3+t%((m:Int)-2)<4611686018427387904)=True:=eq_true (by omega);have mz:((m:Int)-2=0)=False:=eq_false (by omega);have fm:t.fmod ((m:Int)-2)=t%((m:Int)-2):=zlc m0;have i0:=@pD_ix0;have i1:=@pD_ix1;have rg:zag 0 N=(List.range N).map fun (i:Nat)=>D.int (0+(i:Int)):=rfl
  have bt:B5 (.tup [8,9]) (pD p0)=zcv [8,9] [.int p0.1,.int p0.2]:=rfl;have lfp:=ybq p0;rw [Wn] at q3;unfold zfo at q3;clear hΓ r0 r1 t0 t1 e1 m0 u0 u1 N1 N2 N3 Nm q2 q1 hl hp0 hp1 hp2 d0 d1 d2 y1 y2 y3 hl2 hs hm hm2;unfold zbq;walk_at "evh"
  rfl
 ·rcases Vv hp with hp | hp
  ·rcases Vv hp with hp | hp
   ·exact (q2 p hp).up
   ·subst hp;clear q3 A0 A1 A2 I1 I2 hr ht hl2 hp0 hp1 hp2 q2;exact d0.nx (by decide) (by omega)
  ·subst hp;clear q3 A0 A1 A2 I1 I2 hr ht hl2 hp0 hp1 hp2 q2;have:=d0.nx (x:=-x2) (y:=1+x3) (by omega) (by omega)
   rw [<- Int.add_assoc] at this;exact this
 ·refine Zn (i:=0) ?_;rw [Ym (by omega),Ym (by omega),hp0]
 ·refine Zn (i:=N-2) ?_;rw [Ym (by omega),Y4 (by omega)]
 ·refine Zn (i:=N-1) ?_;rw [Y4 (by rw [Wc];omega)]
 ·exact left3 y1.1 y2.1 y3.1
end
open Sf
noncomputable def kP (p:Int×Int):List Int:=[p.1,p.2]
noncomputable def pK:List Int->Int×Int
 | [a,b]=>(a,b)
 | _=>(0,0)
noncomputable def zbk (ps:List (Int×Int)):List (Int×Int):=(ssK (ps.map kP)).map pK
theorem zrk:∀ ps:List (Int×Int),zkw (ps.map pD)=some (ps.map kP)
 | []=>rfl
 | p::ps=>by
  rw [Zv,Zv];unfold zkw;rw [zrk ps];rfl
theorem zre {ps:List (Int×Int)} {k:List Int} (h:k∈ssK (ps.map kP)):∃ p∈ps,k=kP p:=by
 refine xa (Zz.mp (ssK_mem.mp h)) fun p hp e=>?_;exact⟨p,hp,e.symm⟩
theorem dK_pts (ps:List (Int×Int)):(ssK (ps.map kP)).map dK=(zbk ps).map pD:=by
 unfold zbk;rw [W6];refine Gp fun k hk=>?_;refine xa (zre hk) fun p _ e=>?_;subst e;rfl
theorem fm_ss {ps:List (Int×Int)} (h:ps.length<=63):fmW .ss [.lst (ps.map pD)]=some (.new ((zbk ps).map pD)):=by
 show (zkw (ps.map pD)).bind _=_;rw [zrk,Yd,if_pos (by rw [Zd];exact h),dK_pts]
theorem fm_rev {l:List D}:fmW .rev [.lst l]=some (.new l.reverse):=rfl
theorem sortP_mem {ps:List (Int×Int)} {x:Int×Int}:x∈zbk ps↔x∈ps:=by
 unfold zbk;rw [Zz];constructor
 ·rintro⟨k,hk,e⟩
  refine xa (zre hk) fun p hp e2=>?_;subst e2;rw [<- e];exact hp
 ·intro h;exact⟨kP x,ssK_mem.mpr (Z6 h),rfl⟩
theorem zvc (ps:List (Int×Int)):(zbk ps).Pairwise Hu.lt:=by
 unfold zbk;have h:=zou (l:=ps.map kP) (fun x hx=>by
  refine xa (Zz.mp hx) fun p _ e=>?_;rw [<- e];rfl)
 refine Wy.mpr (h.imp_of_mem fun {a b} ha hb hab=>?_);refine xa (zre ha) fun p _ e=>?_;refine xa (zre hb) fun q _ e2=>?_;subst e;subst e2;simp only [kP,ltK,Jk,Zm,decide_eq_true_eq] at hab;exact hab
theorem zvb:∀ l:List (List Int),(ssK l).length<=l.length
 | []=>Zh _
 | k::l=>by
  have h:=zvb l;have g:∀ m:List (List Int),(insK k m).length<=m.length+1:=fun m=>by
   induction m with
   | nil=>exact Zh _
   | cons x m ih=>
    unfold insK;split
    ·simp
    ·split
     ·simp
     ·rw [Zj,Zj];omega
  have:=g (ssK l)
  unfold ssK;rw [Zj];omega
theorem zmj (ps:List (Int×Int)):(zbk ps).length<=ps.length:=by
 unfold zbk;rw [Zd];have:=zvb (ps.map kP)
 rw [Zd] at this;exact this
theorem yfi (l:List D):cutD l none (some (-1))=l.dropLast:=by
 unfold cutD HT.sIx;rw [Qn];simp only [Ub,Gf];congr 1
 split <;> omega
noncomputable abbrev zcw:Int:=10000000000000000000000000000000000000000
section
variable {Γ:Nat->List D->Option W}
noncomputable def zfg:List D->Option W:=run (tab []) zau 4
theorem ok_law_turn_k13:∀ ds w,ds.length=3->zfg ds=some w->run Γ zau 4 ds=some w:=fun ds w _ h=>zcb [] (fun p hp=>by cases hp) (by decide) ds w h
theorem zzs {a b c:Int×Int} (ha:Bd zcw a) (hb:Bd zcw b) (hc:Bd zcw c):zfg [pD a,pD b,pD c]=some (.val (.int (Hu.o3 a b c))):=by
 obtain⟨a1,a2,a3,a4⟩:=ha
 obtain⟨b1,b2,b3,b4⟩:=hb
 obtain⟨c1,c2,c3,c4⟩:=hc
 obtain⟨ax,ay⟩:=a
 obtain⟨bx,by'⟩:=b
 obtain⟨cx,cy⟩:=c
 simp only [zcw] at a1 a2 a3 a4 b1 b2 b3 b4 c1 c2 c3 c4;have m1:B0 (bx-ax) (cy-ay)=true:=zah (by omega) (by omega) (by omega) (by omega);have m2:B0 (by'-ay) (cx-ax)=true:=zah (by omega) (by omega) (by omega) (by omega);clear a1 a2 a3 a4 b1 b2 b3 b4 c1 c2 c3 c4;unfold zfg zau pD Hu.o3 Hu.cr Hu.sb;walk_at "evh"
noncomputable def zpe:List D->Option W:=run (tab [(45,zfg)]) zav 5
theorem ok_law_ring_k13 (h45:Γ 45=zfg):∀ ds w,ds.length=1->zpe ds=some w->run Γ zav 5 ds=some w:=fun ds w _ h=>zcb [(45,zfg)] (by intro p hp;rcases Zt.mp hp with rfl;exact h45) (by decide) ds w h
noncomputable abbrev zcf:E:=(.and (.cmp .gt (.bi .len (.cons (.var 3) .nil)) (.int 1)) (.cmp .le (.call 45 (.cons (.ix (.var 3) (.neg (.int 2))) (.cons (.ix (.var 3) (.neg (.int 1))) (.cons (.var 4) .nil)))) (.int 0)))
noncomputable abbrev zgy:Ss:=(.cons (.whl zcf (.cons (.pop 3) .nil)) (.cons (.app 3 (.var 4)) .nil))
theorem at_m1 {α:Type} {l:List α} {x:α}:L2.atI (l++[x]) (-1)=some x:=by
 rw [zpx (by decide) (by rw [Zq,Zj,Yb];omega),Zq,Zj,Yb,show ((-1:Int)+((l.length+(0+1):Nat):Int)).toNat=l.length by omega,Zu (Zh _),Js];rfl
theorem at_m2 {α:Type} {l:List α} {x y:α}:L2.atI (l++[x]++[y]) (-2)=some x:=by
 have e:(l++[x]++[y]).length=l.length+2:=by simp
 rw [zpx (by decide) (by omega),e,show ((-2:Int)+((l.length+2:Nat):Int)).toNat=l.length by omega,Yy,Zu (Zh _),Js];rfl
theorem zig (h45:Γ 45=zfg) {p:Int×Int} (hp:Bd zcw p) (s f r:Option B):∀ st:List (Int×Int),(∀ q∈st,Bd zcw q)->evB Γ zcf [s,f,r,some (.ow (st.reverse.map pD)),some (.sh (pD p))]=some (match st with
  | b::a::_=>decide (Hu.o3 a b p<=0)
  | _=>false)
 | [],_=>by
  unfold zcf;simp only [U1,Wn];walk_at "evh"
 | [a],_=>by
  unfold zcf;simp only [Y6,U1,Wb,Zv,Wn];walk_at "evh"
 | b::a::st,hb=>by
  have t:=zzs (hb a (.tail _ (.head _))) (hb b (.head _)) hp;have m1:L2.atI (st.reverse.map pD++[pD a]++[pD b]) (-1)=some (pD b):=at_m1;have m2:L2.atI (st.reverse.map pD++[pD a]++[pD b]) (-2)=some (pD a):=at_m2;have hl:decide ((1:Int)<((st.reverse.map pD++[pD a]++[pD b]).length:Int))=true:=decide_eq_true (by simp;omega);simp only [Y6,Yk,Zv,Wn];generalize st.reverse.map pD++[pD a]++[pD b]=L at m1 m2 hl |-;unfold zcf;clear hb hp;walk_at "evh"
theorem zjh (h45:Γ 45=zfg) {p:Int×Int} (hp:Bd zcw p) (s f r:Option B):∀ st:List (Int×Int),(∀ q∈st,Bd zcw q)->zaa (evB Γ zcf) (exs Γ (.cons (.pop 3) .nil)) (st.length+1) [s,f,r,some (.ow (st.reverse.map pD)),some (.sh (pD p))]=some (.nx [s,f,r,some (.ow ((Hu.popw p st).reverse.map pD)),some (.sh (pD p))])
 | [],hb=>by
  unfold zaa;rw [zig h45 hp s f r [] hb];rfl
 | [a],hb=>by
  unfold zaa;rw [zig h45 hp s f r [a] hb];rfl
 | b::a::st,hb=>by
  unfold zaa;have c:=zig h45 hp s f r (b::a::st) hb;dsimp only at c;unfold Hu.popw;by_cases q:Hu.o3 a b p<=0
  ·rw [decide_eq_true q] at c;rw [c,if_pos q];have ih:=zjh h45 hp s f r (a::st) fun x hx=>hb x (.tail _ hx)
   have e:exs Γ (.cons (.pop 3) .nil) [s,f,r,some (.ow ((b::a::st).reverse.map pD)),some (.sh (pD p))]=some (.nx [s,f,r,some (.ow ((a::st).reverse.map pD)),some (.sh (pD p))]):=by
    have ne:((b::a::st).reverse.map pD=[])=False:=eq_false (by simp);have dl:((b::a::st).reverse.map pD).dropLast=(a::st).reverse.map pD:=by
     rw [Y6 (a:=b),Yk,Zv,Wn,Gj]
    generalize (b::a::st).reverse.map pD=L at ne dl |-;clear ih hb;walk_at "evh"
   simp only [e];exact ih
  ·rw [decide_eq_false q] at c;rw [c,if_neg q]
theorem zuz (h45:Γ 45=zfg) {p:Int×Int} (hp:Bd zcw p) (s f r:Option B) (st:List (Int×Int)) (hb:∀ q∈st,Bd zcw q) (hl:(Hu.popw p st).length<1000):exs Γ zgy [s,f,r,some (.ow (st.reverse.map pD)),some (.sh (pD p))]=some (.nx [s,f,r,some (.ow ((p::Hu.popw p st).reverse.map pD)),some (.sh (pD p))]):=by
 have w:=zcz (zjh h45 hp s f r st hb);have hz:(((Hu.popw p st).reverse.map pD).length<PySem.sizeLine)=True:=eq_true (by rw [Yr,Zd,Yv];omega);have e:(p::Hu.popw p st).reverse.map pD=(Hu.popw p st).reverse.map pD++[pD p]:=by rw [Y6,Yk];rfl
 rw [e];have lfp:=ybq p;unfold zgy;generalize (Hu.popw p st).reverse.map pD=L at hz w |-;generalize st.reverse.map pD=L0 at w |-;unfold zcf at w |-;clear hl e hb hp;walk_at "evh"
theorem zkl (p:Int×Int):∀ st:List (Int×Int),(Hu.popw p st).length<=st.length
 | []=>Zh _
 | [_]=>Zh _
 | b::a::st=>by
  unfold Hu.popw;split
  ·have:=zkl p (a::st)
   rw [Zj (a:=b)];omega
  ·exact Zh _
theorem zqt {p x:Int×Int}:∀ {st:List (Int×Int)},x∈Hu.popw p st->x∈st
 | [],h=>h
 | [_],h=>h
 | b::a::st,h=>by
  unfold Hu.popw at h;split at h
  ·exact .tail _ (zqt h)
  ·exact h
theorem zid (h45:Γ 45=zfg) (s f r:Option B):∀ (l st:List (Int×Int)) (o:Option B),(∀ q∈l,Bd zcw q)->(∀ q∈st,Bd zcw q)->l.length+st.length<900 ->
  ∃ o',forN (B5 (.name 4)) (exs Γ zgy) (l.map pD) [s,f,r,some (.ow (st.reverse.map pD)),o]=some (.nx [s,f,r,some (.ow ((Hu.bent st l).reverse.map pD)),o'])
 | [],st,o,_,_,_=>⟨o,rfl⟩
 | p::l,st,o,hb,hs,hl=>by
  rw [Zj] at hl;have hp:=hb p (.head _);have pl:=zkl p st;obtain⟨o',q⟩:=zid h45 s f r l (p::Hu.popw p st) (some (.sh (pD p))) (fun x hx=>hb x (.tail _ hx)) (fun x hx=>by
   rcases Zi.mp hx with e | hx
   ·rw [e];exact hp
   ·exact hs x (zqt hx)) (by rw [Zj];omega)
  refine⟨o',?_⟩
  rw [Zv];unfold forN;simp only [zgz,zjk,zjl,Yq];rw [zuz h45 hp s f r st hs (by omega)];exact q
theorem zeu:∀ (l st:List (Int×Int)),(Hu.bent st l).length<=st.length+l.length
 | [],st=>Zh _
 | p::l,st=>by
  have h:=zeu l (p::Hu.popw p st);have:=zkl p st
  unfold Hu.bent;rw [Zj] at h |-;omega
theorem frz5 {a b c d e:Option B}:frz [a,b,c,d,e]=[a.map fun x=>.sh x.d,b.map fun x=>.sh x.d,c.map fun x=>.sh x.d,d.map fun x=>.sh x.d,e.map fun x=>.sh x.d]:=rfl
theorem zej (l:List (Int×Int)):(l.map pD).dropLast=l.dropLast.map pD:=by
 rw [Qn,Qn,Zd,Ui]
theorem yar {ps:List (Int×Int)} (hl:ps.length<=63) (hb:∀ q∈ps,Bd zcw q):zpe [.lst (ps.map pD)]=some (.new ((Hu.ring (zbk ps)).map pD)):=by
 unfold zpe;generalize hΓ:tab [(45,zfg)]=Γ;have h45:Γ 45=zfg:=by rw [<- hΓ];rfl
 clear hΓ;have f1:=fm_ss hl;have f2:=fm_rev (l:=(zbk ps).map pD);have sl:=zmj ps;have sb:∀ q∈zbk ps,Bd zcw q:=fun q hq=>hb q (sortP_mem.mp hq)
 rw [<- List.map_reverse] at f2;generalize zbk ps=so at f1 f2 sl sb |-;have g1:=zid (Γ:=Γ) h45 (some (.sh (.lst (ps.map pD)))) (some (.sh (.lst []))) (some (.sh (.lst (so.map pD)))) so [] none sb (fun q hq=>by cases hq) (by rw [Yb];omega);refine xb g1 fun o1 g1=>?_;have l1:=zeu so [];have l2:=zeu so.reverse [];rw [Yb,Wf] at l1 l2;rw [Yv] at l2;have e1:=yfi ((Hu.bent [] so).reverse.map pD);rw [zej] at e1;have e2:=yfi ((Hu.bent [] so.reverse).reverse.map pD);rw [zej] at e2;obtain⟨o2,g2⟩:=zid (Γ:=Γ) h45 (some (.sh (.lst (ps.map pD)))) (some (.ow ((Hu.bent [] so).reverse.dropLast.map pD))) (some (.sh (.lst (so.reverse.map pD)))) so.reverse [] o1 (fun q hq=>sb q (Jd.mp hq)) (fun q hq=>by cases hq) (by rw [Yb,Yv];omega)
 unfold Hu.ring;rw [Yk];have z1:([]++(Hu.bent [] so).reverse.dropLast.map pD).length<=PySem.sizeLine:=by
  rw [Yr,Wb,Zd,Ww,Yv];omega
 have z2:((Hu.bent [] so).reverse.dropLast.map pD).length+((Hu.bent [] so.reverse).reverse.dropLast.map pD).length<=PySem.sizeLine:=by
  rw [Yr,Zd,Ww,Yv,Zd,Ww,Yv];omega
 have c1:opW .add (.lst []) (.lst ((Hu.bent [] so).reverse.dropLast.map pD))=some (.new ((Hu.bent [] so).reverse.dropLast.map pD)):=by
  show (if _ then some (W.new _) else none)=_;rw [if_pos (by rw [Yb];rw [Wb] at z1;omega),Wb]
 have c2:opW .add (.lst ((Hu.bent [] so).reverse.dropLast.map pD)) (.lst ((Hu.bent [] so.reverse).reverse.dropLast.map pD))=some (.new ((Hu.bent [] so).reverse.dropLast.map pD++(Hu.bent [] so.reverse).reverse.dropLast.map pD)):=by
  show (if _ then some (W.new _) else none)=_;rw [if_pos z2]
 have lfq:∀ l:List (Int×Int),lfL (l.map pD)=true:=fun l=>by
  induction l with
  | nil=>rfl
  | cons p l ih=>rw [Zv];unfold lfL;rw [ybq,ih];rfl
 have q1:=lfq ((Hu.bent [] so).reverse.dropLast);have q2:lfL ((Hu.bent [] so).reverse.dropLast.map pD++(Hu.bent [] so.reverse).reverse.dropLast.map pD)=true:=by
  rw [<- Yk];exact lfq _
 have q3:=lfq ((Hu.bent [] so.reverse).reverse.dropLast);simp only [U1,Wn] at g1 g2;unfold zav;have fz:=@frz5;generalize (Hu.bent [] so).reverse.dropLast.map pD=R1 at *;generalize (Hu.bent [] so.reverse).reverse.dropLast.map pD=R2 at *;generalize (Hu.bent [] so).reverse.map pD=T1 at *;generalize (Hu.bent [] so.reverse).reverse.map pD=T2 at *;unfold zgy zcf at g1 g2;have ex1:∀ (o:Option B) (b3:Option B),exs Γ (.cons (.asg 3 (.lst .nil)) (.cons (.frr (.name 4) (.seqV 2) (.cons (.whl (.and (.cmp .gt (.bi .len (.cons (.var 3) .nil)) (.int 1)) (.cmp .le (.call 45 (.cons (.ix (.var 3) (.neg (.int 2))) (.cons (.ix (.var 3) (.neg (.int 1))) (.cons (.var 4) .nil)))) (.int 0))) (.cons (.pop 3) .nil)) (.cons (.app 3 (.var 4)) .nil))) (.cons (.asg 1 (.bin .add (.var 1) (.sl (.var 3) .non (.som (.neg (.int 1)))))) .nil))) [some (.sh (.lst (ps.map pD))),some (.sh (.lst [])),some (.sh (.lst (so.map pD))),b3,none]=some (.nx [some (.sh (.lst (ps.map pD))),some (.ow R1),some (.sh (.lst (so.map pD))),some (.ow T1),o1]):=by
  intro o b3;clear g2 f1 f2 sl sb l1 l2 e2 z1 z2 c2 lfq q2 q3 fz hb hl;walk_at "evh"
 have ex2:exs Γ (.cons (.asg 3 (.lst .nil)) (.cons (.frr (.name 4) (.seqV 2) (.cons (.whl (.and (.cmp .gt (.bi .len (.cons (.var 3) .nil)) (.int 1)) (.cmp .le (.call 45 (.cons (.ix (.var 3) (.neg (.int 2))) (.cons (.ix (.var 3) (.neg (.int 1))) (.cons (.var 4) .nil)))) (.int 0))) (.cons (.pop 3) .nil)) (.cons (.app 3 (.var 4)) .nil))) (.cons (.asg 1 (.bin .add (.var 1) (.sl (.var 3) .non (.som (.neg (.int 1)))))) .nil))) [some (.sh (.lst (ps.map pD))),some (.ow R1),some (.sh (.lst (so.reverse.map pD))),some (.ow T1),o1]=some (.nx [some (.sh (.lst (ps.map pD))),some (.ow (R1++R2)),some (.sh (.lst (so.reverse.map pD))),some (.ow T2),o2]):=by
  clear g1 f1 f2 sl sb l1 l2 e1 z1 z2 c1 lfq q1 q3 fz hb hl ex1;walk_at "evh"
 have ex1':=ex1 none none;clear g1 g2 sl sb l1 l2 e1 e2 z1 z2 c1 c2 lfq q1 q2 q3 hb hl ex1;walk_at "evh"
 unfold forN;walk_at "evh"
 unfold forN;walk_at "evh"
 unfold forN;walk_at "evh"
end
open Sf
noncomputable def stD (q:Rat×Rat):D:=.tup [fr q.1,fr q.2]
theorem yev (q:Rat×Rat):lf (stD q)=true:=rfl
noncomputable def spot (b f s:Int) (p:Int×Int):Rat×Rat:=(Rat.divInt (p.1*b+f) s,Rat.divInt (p.2*b-2*f) s)
structure ShapeBy (m:Nat) (l:List (Rat×Rat)) (ps:List (Int×Int)) (b f s:Int):Prop where
 pts:Pts ps
 len:ps.length<=m
 b0:1<=b
 b1:b<=1000000000
 f0 : -1000000000000000000<=f
 f1:f<=1000000000000000000
 s0:1<=s
 s1:s<=1000000000
 eq:l=(Hu.ring (zbk ps)).map (spot b f s)
theorem ykl {a b c:D} {i:Int} (h0:0<=i) (h1:i<3):∃ v,L2.atI [a,b,c] i=some v/\(v=a\/v=b\/v=c):=by
 have:i=0\/i=1\/i=2:=by omega
 rcases this with e | e | e <;> subst e
 ·exact⟨a,rfl,.inl rfl⟩
 ·exact⟨b,rfl,.inr (.inl rfl)⟩
 ·exact⟨c,rfl,.inr (.inr rfl)⟩
theorem zzd {a b:D} {i:Int} (h0:0<=i) (h1:i<2):∃ v,L2.atI [a,b] i=some v/\(v=a\/v=b):=by
 have:i=0\/i=1:=by omega
 rcases this with e | e <;> subst e
 ·exact⟨a,rfl,.inl rfl⟩
 ·exact⟨b,rfl,.inr rfl⟩
theorem yew:∀ l:List (Int×Int),lfL (l.map pD)=true
 | []=>rfl
 | p::l=>by rw [Zv];unfold lfL;rw [ybq,yew l];rfl
theorem zay:∀ l:List (Rat×Rat),lfL (l.map stD)=true
 | []=>rfl
 | p::l=>by rw [Zv];unfold lfL;rw [yev,zay l];rfl
section
variable {Γ:Nat->List D->Option W}
theorem zem {t b:Int} (h:b≠0) (hb:b.natAbs<2^9000):zan [.int t,.int b]=some (.val (fr (Rat.divInt t b))):=by
 unfold zan;simp only
 rw [if_pos ⟨h,hb⟩]
noncomputable abbrev zgo:List (Nat×(List D->Option W)):=[(46,zpe),(34,zdb),(29,zby),(2,zct),(13,zan)]
noncomputable def znk:List D->Option W:=run (tab zgo) B8 8
theorem ok_law_shape_k13 (h46:Γ 46=zpe) (h34:Γ 34=zdb) (h29:Γ 29=zby) (h2:Γ 2=zct) (h13:Γ 13=zan):∀ ds w,ds.length=3->znk ds=some w->run Γ B8 8 ds=some w:=fun ds w _ h=>zcb zgo (by
 intro p hp;simp only [zgo,Zi,W2,or_false] at hp;rcases hp with rfl | rfl | rfl | rfl | rfl <;> assumption) (by decide) ds w h
theorem zqs (p:Hu.Pt):∀ (l:List Hu.Pt),∀ c∈Hu.popw p l,c∈l
 | [],c,h=>h
 | [_],c,h=>h
 | b::a::r,c,h=>by
  unfold Hu.popw at h;split at h
  ·exact .tail _ (zqs p (a::r) c h)
  ·exact h
theorem zlm:∀ (l st:List Hu.Pt),∀ c∈Hu.bent st l,c∈st\/c∈l
 | [],st,c,h=>.inl h
 | p::l,st,c,h=>by
  rcases zlm l _ c h with q | q
  ·rcases Zi.mp q with q | q
   ·exact .inr (q ▸ .head _)
   ·exact .inl (zqs p st c q)
  ·exact .inr (.tail _ q)
theorem zqn {l:List Hu.Pt}:∀ c∈Hu.ring l,c∈l:=fun c h=>by
 unfold Hu.ring at h;rcases Yw.mp h with q | q
 ·have:=Gi _ q
  rw [Jd] at this;rcases zlm _ _ _ this with q | q
  ·cases q
  ·exact q
 ·have:=Gi _ q
  rw [Jd] at this;rcases zlm _ _ _ this with q | q
  ·cases q
  ·exact Jd.mp q
theorem m9 (a:Int):1<=1+a%9/\1+a%9<=1000000000:=by omega
theorem mE9 (a:Int):1<=1+a%1000000000/\1+a%1000000000<=1000000000:=by omega
theorem mfar (a:Int) : -1000000000000000000<=a%2000000000000000000-1000000000000000000/\a%2000000000000000000-1000000000000000000<=1000000000000000000:=by omega
theorem mk2 {x b:Int} (h0 : -2000<=x) (h1:x<=2000) (h2:1<=b) (h3:b<=1000000000):B0 x b=true:=zah (by omega) (by omega) (by omega) (by omega)
theorem mkf {f:Int} (h0 : -1000000000000000000<=f) (h1:f<=1000000000000000000):B0 2 f=true:=zah (by decide) (by decide) (by omega) (by omega)
theorem e9 {s:Int} (h0:1<=s) (h1:s<=1000000000):s≠0/\s.natAbs<2^9000:=by
 have:(1000000000:Nat)<2^9000:=by decide +kernel
 exact⟨by omega,by omega⟩
theorem Bd.big {p:Int×Int} (h:Bd 2000 p):Bd zcw p:=by
 obtain⟨a,b,c,d⟩:=h
 exact⟨by simp only [zcw];omega,by simp only [zcw];omega,by simp only [zcw];omega,by simp only [zcw];omega⟩
theorem zjn (ps:List (Int×Int)):(Hu.ring (zbk ps)).length<=2*ps.length:=by
 unfold Hu.ring;have l1:=zeu (zbk ps) [];have l2:=zeu (zbk ps).reverse [];rw [Yv] at l2;have l3:=zmj ps;rw [Zq,Ww,Ww,Yv,Yv];rw [Yb] at l1 l2;omega
noncomputable abbrev cSh:E:=(.comp (.tup (.cons (.call 13 (.cons (.bin .add (.bin .mul (.var 1) (.var 3)) (.var 4)) (.cons (.var 5) .nil))) (.cons (.call 13 (.cons (.bin .sub (.bin .mul (.var 2) (.var 3)) (.bin .mul (.int 2) (.var 4))) (.cons (.var 5) .nil))) .nil))) (.tup [1,2]) (.seqV 3) 3 [6,7,5] .non)
theorem zvf {Ri Po Mi Ce:List D->Option W} (h46:Γ 46=Ri) (h34:Γ 34=Po) (h29:Γ 29=Mi) (h2:Γ 2=Ce) {NS RD PD O:List D} {s m t c0 c1 c2 sh by' far:Int} (hps:Po [.lst NS,.int s,.int m]=some (.new PD)) (hr:Ri [.lst PD]=some (.new RD)) (ht:Mi [.lst NS,.int (s+1)]=some (.val (.int t))) (hc0:Ce [.lst NS,.int s]=some (.val (.int c0))) (hc1:Ce [.lst NS,.int (s+1)]=some (.val (.int c1))) (hc2:Ce [.lst NS,.int (s+2)]=some (.val (.int c2)))
  (g1:L2.atI [D.int 1,D.int (1+t/64%9),D.int (1+c0%1000000000)] (t/16%3)=some (.int sh)) (g2:L2.atI [D.int 1,D.int (1+c1%1000000000)] (t/1024%2)=some (.int by')) (g3:L2.atI [D.int 0,D.int (c2%2000000000000000000-1000000000000000000)] (t/2048%2)=some (.int far)) (lfR:lfL RD=true)
  (hcomp:ev Γ cSh [some (.lst NS),some (.int s),some (.int m),some (.lst RD),some (.int t),some (.int sh),some (.int by'),some (.int far)]=some (.new O)):run Γ B8 8 [.lst NS,.int s,.int m]=some (.new O):=by
 have m1:B0 2 1000000000000000000=true:=zah (by decide) (by decide) (by decide) (by decide);unfold cSh at hcomp;unfold B8;rw [run_eq];generalize hce:E.comp _ _ _ _ _ _=ce at *;clear hce;walk_at "evh"
theorem zmo (ns:List Int) (s m:Nat) (hs:s<=400) (hm:3<=m) (hm2:m<=63):∃ l ps b f sh,ShapeBy m l ps b f sh/\znk [.lst (ns.map D.int),.int (s:Int),.int (m:Int)]=some (.new (l.map stD)):=by
 refine xh (yhf ns s m (by omega) hm (by omega)) fun ps hps pl P=>?_;have hr:=yar (ps:=ps) (by omega) (fun q hq=>(P.bd q hq).big);have hR:∀ p∈Hu.ring (zbk ps),Bd 2000 p:=fun p hp=>by
  exact P.bd p (sortP_mem.mp (zqn p hp))
 have hRl:(Hu.ring (zbk ps)).length<=200:=Y3 (zjn ps) (by omega);generalize hRR:Hu.ring (zbk ps)=R at hr hR hRl;refine xh (zei ns (s+1) (by omega)) fun t ht t0 t1=>?_;refine xb (zgx (ns:=ns) (k:=s)) fun c0 hc0=>?_;refine xb (zgx (ns:=ns) (k:=s+1)) fun c1 hc1=>?_;refine xb (zgx (ns:=ns) (k:=s+2)) fun c2 hc2=>?_;have e1:(((s+1:Nat)):Int)=(s:Int)+1:=Int.natCast_add s 1;have e2:(((s+2:Nat)):Int)=(s:Int)+2:=Int.natCast_add s 2;rw [e1] at ht hc1;rw [e2] at hc2;refine xa (ykl (a:=D.int 1) (b:=D.int (1+t/64%9)) (c:=D.int (1+c0%1000000000)) (i:=t/16%3) (Yc _ (by decide)) (Yj _ (by decide))) fun v1 g1 g1'=>?_;refine xa (zzd (a:=D.int 1) (b:=D.int (1+c1%1000000000)) (i:=t/1024%2) (Yc _ (by decide)) (Yj _ (by decide))) fun v2 g2 g2'=>?_;refine xa (zzd (a:=D.int 0) (b:=D.int (c2%2000000000000000000-1000000000000000000)) (i:=t/2048%2) (Yc _ (by decide)) (Yj _ (by decide))) fun v3 g3 g3'=>?_;obtain⟨sh,hsh,s0,s1⟩:∃ x:Int,v1=.int x/\1<=x/\x<=1000000000:=by
  rcases g1' with e | e | e
  ·exact⟨_,e,by decide,by decide⟩
  ·exact⟨_,e,m9 _⟩
  ·exact⟨_,e,mE9 _⟩
 obtain⟨by',hby,b0,b1⟩:∃ x:Int,v2=.int x/\1<=x/\x<=1000000000:=by
  rcases g2' with e | e
  ·exact⟨_,e,by decide,by decide⟩
  ·exact⟨_,e,mE9 _⟩
 obtain⟨far,hfar,f0,f1⟩:∃ x:Int,v3=.int x /\ -1000000000000000000<=x/\x<=1000000000000000000:=by
  rcases g3' with e | e
  ·exact⟨_,e,by decide,by decide⟩
  ·exact⟨_,e,mfar _⟩
 subst hsh;subst hby;subst hfar;refine⟨R.map (spot by' far sh),ps,by',far,sh,⟨P,pl,b0,b1,f0,f1,s0,s1,by rw [hRR]⟩,?_⟩
 unfold znk;generalize hΓ:tab zgo=Γ;have h46:Γ 46=zpe:=by rw [<- hΓ];rfl
 have h34:Γ 34=zdb:=by rw [<- hΓ];rfl
 have h29:Γ 29=zby:=by rw [<- hΓ];rfl
 have h2:Γ 2=zct:=by rw [<- hΓ];rfl
 have h13:Γ 13=zan:=by rw [<- hΓ];rfl
 have m1:B0 2 1000000000000000000=true:=zah (by decide) (by decide) (by decide) (by decide);have lfR:=yew R;have hcomp:ev Γ (.comp (.tup (.cons (.call 13 (.cons (.bin .add (.bin .mul (.var 1) (.var 3)) (.var 4)) (.cons (.var 5) .nil))) (.cons (.call 13 (.cons (.bin .sub (.bin .mul (.var 2) (.var 3)) (.bin .mul (.int 2) (.var 4))) (.cons (.var 5) .nil))) .nil))) (.tup [1,2]) (.seqV 3) 3 [6,7,5] .non)
   [some (.lst (ns.map D.int)),some (.int (s:Int)),some (.int (m:Int)),some (.lst (R.map pD)),some (.int t),some (.int sh),some (.int by'),some (.int far)]=some (.new (R.map fun p=>stD (spot by' far sh p))):=by
  refine zii (g:=pD) ?_ (by rw [Yr];omega) rfl fun p hp=>?_
  ·clear hR hRR hΓ g1 g2 g3 hr hps ht hc0 hc1 hc2;walk_at "evh"
  ·obtain⟨x0,x1,y0,y1⟩:=hR p hp
   obtain⟨x,y⟩:=p
   simp only at x0 x1 y0 y1
   have k1:B0 x by'=true:=mk2 x0 x1 b0 b1
   have k2:B0 y by'=true:=mk2 y0 y1 b0 b1
   have k3:B0 2 far=true:=mkf f0 f1;have w1:=zem (t:=x*by'+far) (b:=sh) (e9 s0 s1).1 (e9 s0 s1).2;have w2:=zem (t:=y*by'-2*far) (b:=sh) (e9 s0 s1).1 (e9 s0 s1).2;have q1:stD (spot by' far sh (x,y))=.tup [fr (Rat.divInt (x*by'+far) sh),fr (Rat.divInt (y*by'-2*far) sh)]:=rfl;have q2:pD (x,y)=.tup [.int x,.int y]:=rfl;rw [q1,q2];clear hR hRR hΓ g1 g2 g3 hr hps ht hc0 hc1 hc2 x0 x1 y0 y1 hp q1 q2 g1' g2' g3' P;walk_at "evh"
 rw [W6];show run Γ B8 8 _=some (.new (R.map fun p=>stD (spot by' far sh p)));exact zvf h46 h34 h29 h2 hps hr ht hc0 hc1 hc2 g1 g2 g3 lfR hcomp
end
open Sf
mutual
theorem zld:∀ (n:Nat) (d:D),dOk n d=true->eqD d d=true
 | _,.non,_=>rfl
 | _,.bl b,_=>by simp only [eqD,beq_self_eq_true]
 | _,.int i,_=>by simp [eqD]
 | 0,.tup l,h=>by simp only [dOk] at h;cases h
 | n+1,.tup l,h=>by
  simp only [dOk] at h;simp only [eqD];exact eqL_self n l h
 | 0,.lst l,h=>by simp only [dOk] at h;cases h
 | n+1,.lst l,h=>by
  simp only [dOk] at h;simp only [eqD];exact eqL_self n l h
 | _,.exc x,h=>by simp only [dOk] at h;cases h
theorem eqL_self:∀ (n:Nat) (l:List D),dOkL n l=true->eqL l l=true
 | _,[],_=>by simp only [eqL]
 | n,d::l,h=>by
  simp only [dOkL,Zm] at h;simp only [eqL,Zm];exact⟨zld n d h.1,eqL_self n l h.2⟩
end
theorem zsd:∀ l:List (Rat×Rat),dOkL 49 (l.map stD)=true
 | []=>rfl
 | q::l=>by
  rw [Zv];unfold dOkL;rw [zsd l];rfl
def SzL (n:Nat) (l:List (Rat×Rat)):Prop:=∀ q∈l,Sz n q.1/\Sz n q.2
theorem ShapeBy.sz62 {m:Nat} {l:List (Rat×Rat)} {ps:List (Int×Int)} {b f s:Int} (h:ShapeBy m l ps b f s):SzL 62 l:=fun q hq=>by
 rw [h.eq] at hq;refine xa (Zz.mp hq) fun p hp e=>?_;subst e;have hR:Bd 2000 p:=by
  exact h.pts.bd p (sortP_mem.mp (zqn p hp))
 refine xt (And.intro h.b0 (And.intro h.b1 (And.intro h.f0 (And.intro h.f1 (And.intro h.s0 h.s1))))) fun b0 b1 f0 f1 s0 s1=>?_;have key:∀ x:Int,-2000<=x->x<=2000 -> -2000000000000<=x*b/\x*b<=2000000000000:=fun x h1 h2=>by
  have a1:=U5 h2 (show 0<=b by omega);have a2:=U5 h1 (show 0<=b by omega);have a3:(2000:Int)*b<=2000000000000:=by omega
  have a4 : -2000000000000<=(-2000:Int)*b:=by omega
  omega
 have k1:=key p.1 hR.a hR.b;have k2:=key p.2 hR.c hR.d;have e62:(2:Nat)^62=4611686018427387904:=by decide
 exact⟨zuv (by omega) (by rw [e62];omega) (by rw [e62];omega),zuv (by omega) (by rw [e62];omega) (by rw [e62];omega)⟩
theorem ShapeBy.sz {m:Nat} {l:List (Rat×Rat)} {ps:List (Int×Int)} {b f s:Int} (h:ShapeBy m l ps b f s):SzL 64 l:=fun q hq=>⟨(h.sz62 q hq).1.mono (by decide),(h.sz62 q hq).2.mono (by decide)⟩
theorem ShapeBy.small {m:Nat} {l:List (Rat×Rat)} {ps:List (Int×Int)} {b f s:Int} (h:ShapeBy m l ps b f s) (hm:m<=63):l.length<=200:=by
 have l4:=h.len;rw [h.eq,Zd];exact Y3 (zjn ps) (by omega)
section
variable {Γ:Nat->List D->Option W}
end
open Sf
section
variable {Γ:Nat->List D->Option W}
end
open Sf
theorem zdn {bt:D->RhoS->Option RhoS} {fb:RhoS->Option Out} {I:RhoS->Prop}:∀ (l:List D),(∀ d∈l,∀ ρ,I ρ->∃ ρ1 ρ2,bt d ρ=some ρ1/\fb ρ1=some (.nx ρ2)/\I ρ2)->∀ ρ,I ρ->∃ ρ',forN bt fb l ρ=some (.nx ρ')/\I ρ'
 | [],_,ρ,h=>⟨ρ,rfl,h⟩
 | d::l,hs,ρ,h=>by
  refine xc (hs d (.head _) ρ h) fun ρ1 ρ2 e1 e2 h2=>?_;refine xa (zdn l (fun x hx=>hs x (.tail _ hx)) ρ2 h2) fun ρ' e3 h3=>?_;refine⟨ρ',?_,h3⟩
  unfold forN;rw [e1];simp only
  rw [e2];exact e3
noncomputable abbrev H3:=Int×Int×Int
noncomputable def hom (q:Rat×Rat):H3:=(q.1.num*(q.2.den:Int),q.2.num*(q.1.den:Int),(q.1.den:Int)*(q.2.den:Int))
noncomputable def hD (h:H3):D:=.tup [.int h.1,.int h.2.1,.int h.2.2]
noncomputable def det3 (a b c:H3):Int:=a.1*(b.2.1*c.2.2-c.2.1*b.2.2)-a.2.1*(b.1*c.2.2-c.1*b.2.2)+a.2.2*(b.1*c.2.1-c.1*b.2.1)
noncomputable def bef (a b:H3):Bool:=if a.1*b.2.2=b.1*a.2.2 then decide (a.2.1*b.2.2<b.2.1*a.2.2) else decide (a.1*b.2.2<b.1*a.2.2)
structure HB (n:Nat) (h:H3):Prop where
 a:h.1.natAbs<2^n
 b:h.2.1.natAbs<2^n
 c:h.2.2.natAbs<2^n
theorem znt {n:Nat} {q:Rat×Rat} (h1:Sz n q.1) (h2:Sz n q.2):HB (n+n) (hom q):=
 ⟨Bw h1.t (Bq h2),Bw h2.t (Bq h1),Bw (Bq h1) (Bq h2)⟩
noncomputable def oR (a b c:Rat×Rat):Rat:=(b.1-a.1)*(c.2-a.2)-(b.2-a.2)*(c.1-a.1)
def ltR (a b:Rat×Rat):Prop:=a.1<b.1\/(a.1=b.1/\a.2<b.2)
theorem zfm (q:Rat×Rat):(0:Int)<(hom q).2.2:=Ks (zam q.1) (zam q.2)
theorem cast_pos {i:Int}:(0:Rat)<(i:Rat)↔0<i:=by
 rw [show (0:Rat)=((0:Int):Rat) from rfl,Wz]
theorem znf (x:Rat):(x.num:Rat)=x*((x.den:Int):Rat):=by
 have hp:=cast_pos.mpr (zam x);have h:((x.den:Int):Rat)≠0:=fun z=>by rw [z] at hp;exact absurd hp (by decide)
 have e:x=(x.num:Rat)/((x.den:Int):Rat):=by
  conv=>lhs;rw [<- Rat.mkRat_self x,Rat.mkRat_eq_div]
  rw [Rat.intCast_natCast]
 have e2:x*((x.den:Int):Rat)=(x.num:Rat)/((x.den:Int):Rat)*((x.den:Int):Rat):=by
  conv=>lhs;lhs;rw [e]
 rw [e2,Rat.div_mul_cancel h]
theorem znv (q:Rat×Rat):((hom q).1:Rat)=q.1*((hom q).2.2:Rat):=by
 show ((q.1.num*(q.2.den:Int):Int):Rat)=q.1*(((q.1.den:Int)*(q.2.den:Int):Int):Rat);rw [Z7,Z7,znf];grind
theorem znu (q:Rat×Rat):((hom q).2.1:Rat)=q.2*((hom q).2.2:Rat):=by
 show ((q.2.num*(q.1.den:Int):Int):Rat)=q.2*(((q.1.den:Int)*(q.2.den:Int):Int):Rat);rw [Z7,Z7,znf];grind
theorem det_eq (a b c:Rat×Rat):((det3 (hom a) (hom b) (hom c):Int):Rat)=((hom a).2.2:Rat)*((hom b).2.2:Rat)*((hom c).2.2:Rat)*oR a b c:=by
 unfold det3 oR;simp only [Vk,Qo,Z7];have x1:=znv a;have y1:=znu a;have x2:=znv b;have y2:=znu b;have x3:=znv c;have y3:=znu c;rw [x1,y1,x2,y2,x3,y3];grind
theorem yjl {a b c:Rat×Rat} (h:0<oR a b c):0<det3 (hom a) (hom b) (hom c):=by
 rw [<- cast_pos,det_eq];have w1:=cast_pos.mpr (zfm a);have w2:=cast_pos.mpr (zfm b);have w3:=cast_pos.mpr (zfm c);exact Y7 (Y7 (Y7 w1 w2) w3) h
theorem zsf {x y:Rat} {u v:Int} (hu:0<u) (hv:0<v) {a b:Int} (ha:(a:Rat)=x*(u:Rat)) (hb:(b:Rat)=y*(v:Rat)):(a*v=b*u↔x=y)/\(a*v<b*u↔x<y):=by
 have hu':=cast_pos.mpr hu;have hv':=cast_pos.mpr hv;have e1:((a*v:Int):Rat)=x*((u:Rat)*(v:Rat)):=by rw [Z7,ha];grind
 have e2:((b*u:Int):Rat)=y*((u:Rat)*(v:Rat)):=by rw [Z7,hb];grind
 have hp:=Y7 hu' hv';constructor
 ·rw [<- Rat.intCast_inj,e1,e2];constructor
  ·intro h;have hne:(u:Rat)*(v:Rat)≠0:=fun z=>by rw [z] at hp;exact absurd hp (by decide)
   have:x*((u:Rat)*(v:Rat))/((u:Rat)*(v:Rat))=y*((u:Rat)*(v:Rat))/((u:Rat)*(v:Rat)):=by rw [h]
   rw [Um hne,Um hne] at this;exact this
  ·intro h;rw [h]
 ·rw [<- Wz,e1,e2];exact Wx hp
theorem ykj (a b:Rat×Rat):bef (hom a) (hom b)=true↔ltR a b:=by
 refine xg (zsf (zfm a) (zfm b) (znv a) (znv b)) fun e1 l1=>?_;refine xg (zsf (zfm a) (zfm b) (znu a) (znu b)) fun e2 l2=>?_;unfold bef ltR;by_cases z:(hom a).1*(hom b).2.2=(hom b).1*(hom a).2.2
 ·rw [if_pos z,decide_eq_true_eq,l2];have:=e1.mp z
  constructor
  ·intro h;exact .inr ⟨this,h⟩
  ·rintro (h | h)
   ·rw [this] at h;exact absurd h Rat.lt_irrefl
   ·exact h.2
 ·rw [if_neg z,decide_eq_true_eq,l1];constructor
  ·intro h;exact .inl h
  ·rintro (h | h)
   ·exact h
   ·exact absurd (e1.mpr h.1) z
theorem yfk (a b:H3):cmpD .ne (hD a) (hD b)=some (decide (a≠b)):=by
 obtain⟨a1,a2,a3⟩:=a
 obtain⟨b1,b2,b3⟩:=b
 show (if (dOkL 49 [D.int a1,D.int a2,D.int a3] && dOkL 49 [D.int b1,D.int b2,D.int b3])=true then some (!eqL [D.int a1,D.int a2,D.int a3] [D.int b1,D.int b2,D.int b3]) else none)=_;rw [if_pos (show (dOkL 49 [D.int a1,D.int a2,D.int a3] && dOkL 49 [D.int b1,D.int b2,D.int b3])=true from rfl)];congr 1
 simp only [eqL,eqD,V3];by_cases e1:a1=b1 <;> by_cases e2:a2=b2 <;> by_cases e3:a3=b3 <;> simp [e1,e2,e3]
section
variable {Γ:Nat->List D->Option W}
noncomputable def zen:List D->Option W:=run (tab []) zaw 3
theorem ok_law_flat_k11:∀ ds w,ds.length=1->zen ds=some w->run Γ zaw 3 ds=some w:=fun ds w _ h=>zcb [] (fun p hp=>by cases hp) (by decide) ds w h
theorem zgu {n:Nat} {q:Rat×Rat} (h1:Sz n q.1) (h2:Sz n q.2) (hn:n<=4000):zen [stD q]=some (.val (hD (hom q))):=by
 have m1:B0 q.1.num (q.2.den:Int)=true:=Bv h1.t (Bq h2) (by omega) (by omega);have m2:B0 q.2.num (q.1.den:Int)=true:=Bv h2.t (Bq h1) (by omega) (by omega);have m3:B0 (q.1.den:Int) (q.2.den:Int)=true:=Bv (Bq h1) (Bq h2) (by omega) (by omega);clear h1 h2;unfold zen zaw stD hD hom;walk_at "evh"
noncomputable def mWay:List D->Option W:=run (tab []) zaz 4
theorem ok_law_way_k11:∀ ds w,ds.length=3->mWay ds=some w->run Γ zaz 4 ds=some w:=fun ds w _ h=>zcb [] (fun p hp=>by cases hp) (by decide) ds w h
theorem ztg {a b:Int} {n:Nat} (h:a.natAbs<2^n) (k:b.natAbs<2^n):(a-b).natAbs<2^(n+1):=by
 rw [Jt];omega
theorem yfs {n:Nat} {a b c:H3} (ha:HB n a) (hb:HB n b) (hc:HB n c) (hn:n<=3000):mWay [hD a,hD b,hD c]=some (.val (.int (det3 a b c))):=by
 have m:∀ x y:Int,x.natAbs<2^n->y.natAbs<2^n->B0 x y=true:=fun x y h k=>Bv h k (by omega) (by omega)
 have m':∀ x y z u v:Int,x.natAbs<2^n->y.natAbs<2^n->z.natAbs<2^n->u.natAbs<2^n->v.natAbs<2^n->B0 x (y*z-u*v)=true:=fun x y z u v h1 h2 h3 h4 h5=>Bv h1 (ztg (Bw h2 h3) (Bw h4 h5)) (by omega) (by omega)
 obtain⟨a1,a2,a3⟩:=a
 obtain⟨b1,b2,b3⟩:=b
 obtain⟨c1,c2,c3⟩:=c
 obtain⟨p1,p2,p3⟩:=ha
 obtain⟨q1,q2,q3⟩:=hb
 obtain⟨r1,r2,r3⟩:=hc
 simp only at p1 p2 p3 q1 q2 q3 r1 r2 r3
 have k1:=m b2 c3 q2 r3;have k2:=m c2 b3 r2 q3;have k3:=m b1 c3 q1 r3;have k4:=m c1 b3 r1 q3;have k5:=m b1 c2 q1 r2;have k6:=m c1 b2 r1 q2;have k7:=m' a1 b2 c3 c2 b3 p1 q2 r3 r2 q3;have k8:=m' a2 b1 c3 c1 b3 p2 q1 r3 r1 q3;have k9:=m' a3 b1 c2 c1 b2 p3 q1 r2 r1 q2;clear m m' p1 p2 p3 q1 q2 q3 r1 r2 r3;unfold mWay zaz hD det3;walk_at "evh"
noncomputable def zdx:List D->Option W:=run (tab []) zbj 2
theorem ok_law_before:∀ ds w,ds.length=2->zdx ds=some w->run Γ zbj 2 ds=some w:=fun ds w _ h=>zcb [] (fun p hp=>by cases hp) (by decide) ds w h
theorem ztw {n:Nat} {a b:H3} (ha:HB n a) (hb:HB n b) (hn:n<=3000):zdx [hD a,hD b]=some (.val (.bl (bef a b))):=by
 have m:∀ x y:Int,x.natAbs<2^n->y.natAbs<2^n->B0 x y=true:=fun x y h k=>Bv h k (by omega) (by omega)
 obtain⟨a1,a2,a3⟩:=a
 obtain⟨b1,b2,b3⟩:=b
 obtain⟨p1,p2,p3⟩:=ha
 obtain⟨q1,q2,q3⟩:=hb
 simp only at p1 p2 p3 q1 q2 q3
 have k1:=m a1 b3 p1 q3;have k2:=m b1 a3 q1 p3;have k3:=m a2 b3 p2 q3;have k4:=m b2 a3 q2 p3;clear m p1 p2 p3 q1 q2 q3;unfold zdx zbj hD bef;simp only
 by_cases z:a1*b3=b1*a3
 ·rw [if_pos z];have zz:decide (a1*b3=b1*a3)=true:=decide_eq_true z;clear z;walk_at "evh"
 ·rw [if_neg z];have zz:decide (a1*b3=b1*a3)=false:=decide_eq_false z;clear z;walk_at "evh"
structure IsShp (l:List (Rat×Rat)):Prop where
 three:3<=l.length
 first:∀ k q0 q,l[0]? = some q0->l[k+1]? = some q->ltR q0 q
 conv:∀ k a b c,l[(k+l.length-1)%l.length]? = some a->l[k]? = some b->c∈l->c≠a->c≠b->0<oR a b c
noncomputable abbrev zdi:List (Nat×(List D->Option W)):=[(14,znl),(30,zen),(32,zdx),(31,mWay)]
noncomputable def zcs:List D->Option W:=run (tab zdi) zal 5
theorem ok_law_is_shape (h14:Γ 14=znl) (h30:Γ 30=zen) (h32:Γ 32=zdx) (h31:Γ 31=mWay):∀ ds w,ds.length=1->zcs ds=some w->run Γ zal 5 ds=some w:=fun ds w _ h=>zcb zdi (by
 intro p hp;simp only [zdi,Zi,W2,or_false] at hp;rcases hp with rfl | rfl | rfl | rfl <;> assumption) (by decide) ds w h
noncomputable abbrev bS1:Ss:=(.cons (.iff (.or (.not (.isi (.var 1) .tuple)) (.cmp .ne (.bi .len (.cons (.var 1) .nil)) (.int 2))) (.cons (.ret (.bl false)) .nil) .nil) (.cons (.iff (.or (.not (.call 14 (.cons (.ix (.var 1) (.int 0)) .nil))) (.not (.call 14 (.cons (.ix (.var 1) (.int 1)) .nil)))) (.cons (.ret (.bl false)) .nil) .nil) .nil))
noncomputable abbrev bS2:Ss:=(.cons (.iff (.not (.call 32 (.cons (.ix (.var 2) (.int 0)) (.cons (.ix (.var 2) (.var 3)) .nil)))) (.cons (.ret (.bl false)) .nil) .nil) .nil)
noncomputable abbrev bS3:Ss:=(.cons (.iff (.and (.cmp .ne (.var 4) (.ix (.var 2) (.var 3))) (.cmp .ne (.var 4) (.ix (.var 2) (.bin .sub (.var 3) (.int 1))))) (.cons (.iff (.cmp .le (.call 31 (.cons (.ix (.var 2) (.bin .sub (.var 3) (.int 1))) (.cons (.ix (.var 2) (.var 3)) (.cons (.var 4) .nil)))) (.int 0)) (.cons (.ret (.bl false)) .nil) .nil) .nil) .nil) .nil)
theorem isS1 {φ:List D->Option W} (h14:Γ 14=φ) {L:D} {a b:D} (i1:φ [a]=some (.val (.bl true))) (i2:φ [b]=some (.val (.bl true))):exs Γ bS1 [some (.sh L),some (.sh (.tup [a,b])),none,none,none]=some (.nx [some (.sh L),some (.sh (.tup [a,b])),none,none,none]):=by
 unfold bS1;walk_at "evh"
theorem isS2 {φ:List D->Option W} (h32:Γ 32=φ) {L:D} {C:List D} {o1:Option B} {k:Int} {a b:D} (a0:L2.atI C 0=some a) (a1:L2.atI C k=some b) (w:φ [a,b]=some (.val (.bl true))):exs Γ bS2 [some (.sh L),o1,some (.ow C),some (.sh (.int k)),none]=some (.nx [some (.sh L),o1,some (.ow C),some (.sh (.int k)),none]):=by
 unfold bS2;walk_at "evh"
def okS (φ:List D->Option W) (a b x:D):Prop:=cmpD .ne x b=some false\/(cmpD .ne x b=some true/\cmpD .ne x a=some false)\/∃ w:Int,cmpD .ne x b=some true/\cmpD .ne x a=some true/\φ [a,b,x]=some (.val (.int w))/\decide (w<=0)=false
theorem isS3 {φ:List D->Option W} (h31:Γ 31=φ) {L:D} {C:List D} {s:Option B} {k:Int} {a b x:D} (a0:L2.atI C (k-1)=some a) (a1:L2.atI C k=some b) (h:okS φ a b x):exs Γ bS3 [some (.sh L),s,some (.sh (.lst C)),some (.sh (.int k)),some (.sh x)]=some (.nx [some (.sh L),s,some (.sh (.lst C)),some (.sh (.int k)),some (.sh x)]):=by
 unfold bS3;rcases h with c1 | ⟨c1,c2⟩ | ⟨w,c1,c2,c3,c4⟩
 ·walk_at "evh"
 ·walk_at "evh"
 ·walk_at "evh"
theorem isS4 {L:D} {C:List D} {s h:Option B} {k:Int} {r:RhoS} (q:forN (B5 (.name 4)) (exs Γ bS3) C [some (.sh L),s,some (.sh (.lst C)),some (.sh (.int k)),h]=some (.nx r)):exs Γ (.cons (.frr (.name 4) (.seqV 2) bS3) .nil) [some (.sh L),s,some (.sh (.lst C)),some (.sh (.int k)),h]=some (.nx r):=by
 generalize bS3=bd at *;walk_at "evh"
theorem isS5 {L:D} {C:List D} {s h:Option B} {k:Int} {r:RhoS} (q:forN (B5 (.name 4)) (exs Γ bS3) C [some (.sh L),s.map fun x=>.sh x.d,some (.sh (.lst C)),some (.sh (.int k)),h.map fun x=>.sh x.d]=some (.nx r)):exs Γ (.cons (.frr (.name 4) (.seqV 2) bS3) .nil) [some (.sh L),s,some (.ow C),some (.sh (.int k)),h]=some (.nx r):=by
 have fz:=@frz5;generalize bS3=bd at *;walk_at "evh"
theorem zrm {φ:List D->Option W} (h31:Γ 31=φ) {L:D} {C:List D} {k:Int} {a b:D} (a0:L2.atI C (k-1)=some a) (a1:L2.atI C k=some b) (h:∀ x∈C,okS φ a b x) (s o:Option B):∃ r,forN (B5 (.name 4)) (exs Γ bS3) C [some (.sh L),s,some (.sh (.lst C)),some (.sh (.int k)),o]=some (.nx r)/\∃ z,r=[some (.sh L),s,some (.sh (.lst C)),some (.sh (.int k)),z]:=
 zdn (I:=fun r=>∃ z,r=[some (.sh L),s,some (.sh (.lst C)),some (.sh (.int k)),z]) C (fun d hd ρ hρ=>by
  refine xb hρ fun z qz1=>?_;clear hρ;subst qz1
  exact⟨_,_,rfl,isS3 h31 a0 a1 (h d hd),⟨_,rfl⟩⟩) _ ⟨o,rfl⟩
theorem zxg {n:Nat} {l:List (Rat×Rat)} (h31:Γ 31=mWay) (hS:IsShp l) (hb:∀ q∈l,HB (n+n) (hom q)) (hn:n<=1000) (hl:l.length<=1000) {L:D} {o1 o2:Option B}:∃ r,forN (B5 (.name 3)) (exs Γ (.cons (.frr (.name 4) (.seqV 2) bS3) .nil)) (zag 0 (((l.map fun q=>hD (hom q)).length:Int)).toNat) [some (.sh L),o1,some (.ow (l.map fun q=>hD (hom q))),o2,none]=some (.nx r)/\∃ s b o h,b.d=.lst (l.map fun q=>hD (hom q))/\r=[some (.sh L),s,some b,o,h]:=by
 have three:=hS.three;have hCl:(l.map fun q=>hD (hom q)).length=l.length:=Zd ..;have hCi:∀ (i:Nat) (q:Rat×Rat),l[i]? = some q->(l.map fun q=>hD (hom q))[i]? = some (hD (hom q)):=fun i q e=>by rw [Zk,e];rfl
 refine zdn (I:=fun r=>∃ s b o h,b.d=.lst (l.map fun q=>hD (hom q))/\r=[some (.sh L),s,some b,o,h]) _ (fun d hd ρ hρ=>?_) _ ⟨o1,.ow _,o2,none,rfl,rfl⟩;refine xB hρ fun s b o h hbd qz5=>?_;clear hρ;subst qz5
 unfold zag at hd;refine xa (Zz.mp hd) fun i hi e=>?_;subst e;have hi':=Wi.mp hi;rw [Qq,hCl] at hi';rw [Int.zero_add];have gb:l[i]? = some (l[i]'hi'):=Ze _;have him:(i+l.length-1)%l.length<l.length:=Qi _ (by omega);have ga:l[(i+l.length-1)%l.length]? = some (l[(i+l.length-1)%l.length]'him):=Ze _;have a1:L2.atI (l.map fun q=>hD (hom q)) (i:Int)=some (hD (hom (l[i]'hi'))):=by rw [zdg (by omega) (by omega),Qq];exact hCi i _ gb
 have a0:L2.atI (l.map fun q=>hD (hom q)) ((i:Int)-1)=some (hD (hom (l[(i+l.length-1)%l.length]'him))):=by
  rw [zyz (by rw [hCl];exact hi'),hCl];exact hCi _ _ ga
 have ok:∀ x∈l.map (fun q=>hD (hom q)),okS mWay (hD (hom (l[(i+l.length-1)%l.length]'him))) (hD (hom (l[i]'hi'))) x:=fun x hx=>by
  refine xa (Zz.mp hx) fun qc hqc e=>?_;subst e;have c1:=yfk (hom qc) (hom (l[i]'hi'));have c2:=yfk (hom qc) (hom (l[(i+l.length-1)%l.length]'him));by_cases z1:hom qc=hom (l[i]'hi')
  ·rw [decide_eq_false (fun k=>k z1)] at c1;exact .inl c1
  ·rw [decide_eq_true z1] at c1;by_cases z2:hom qc=hom (l[(i+l.length-1)%l.length]'him)
   ·rw [decide_eq_false (fun k=>k z2)] at c2;exact .inr (.inl ⟨c1,c2⟩)
   ·rw [decide_eq_true z2] at c2;have dp:=yjl (hS.conv i _ _ qc ga gb hqc (fun e=>z2 (by rw [e])) (fun e=>z1 (by rw [e])));exact .inr (.inr ⟨_,c1,c2,yfs (hb _ (Zn ga)) (hb _ (Zn gb)) (hb qc hqc) (by omega),decide_eq_false (by omega)⟩)
 cases b with
 | ow C'=>
  have:C'=l.map fun q=>hD (hom q):=by injection hbd
  subst this;refine vf (zrm h31 (L:=L) a0 a1 ok (s.map fun x=>.sh x.d) (h.map fun x=>.sh x.d)) fun r q1 h2 q2=>?_;subst q2;exact⟨_,_,rfl,isS5 q1,⟨_,.sh _,_,h2,rfl,rfl⟩⟩
 | sh C'=>
  have:C'=.lst (l.map fun q=>hD (hom q)):=hbd
  subst this;refine vf (zrm h31 (L:=L) a0 a1 ok s h) fun r q1 h2 q2=>?_;subst q2;exact⟨_,_,rfl,isS4 q1,⟨_,.sh _,_,h2,rfl,rfl⟩⟩
theorem yis {L C:List D} {o1 o2:Option B} {r3:RhoS} (f1:forN (B5 (.name 1)) (exs Γ bS1) L [some (.sh (.lst L)),none,none,none,none]=some (.nx [some (.sh (.lst L)),o1,none,none,none])) (hC:∀ a b c d,ev Γ (.comp (.call 30 (.cons (.var 1) .nil)) (.name 1) (.seqV 0) 2 [] .non) [some (.lst L),a,b,c,d]=some (.new C)) (lfC:lfL C=true)
  (f2:forN (B5 (.name 3)) (exs Γ bS2) (zag 1 ((C.length:Int)-1).toNat) [some (.sh (.lst L)),o1,some (.ow C),none,none]=some (.nx [some (.sh (.lst L)),o1,some (.ow C),o2,none])) (f3:forN (B5 (.name 3)) (exs Γ (.cons (.frr (.name 4) (.seqV 2) bS3) .nil)) (zag 0 (C.length:Int).toNat) [some (.sh (.lst L)),o1,some (.ow C),o2,none]=some (.nx r3))
  (d3:decide ((L.length:Int)<3)=false) (rr1:(-4611686018427387904<=(C.length:Int)/\(C.length:Int)<4611686018427387904)=True):run Γ zal 5 [.lst L]=some (.val (.bl true)):=by
 unfold bS1 at f1;unfold bS2 at f2;unfold bS3 at f3;unfold zal;generalize hce:E.comp _ _ _ _ _ _=ce at *;clear hce;walk_at "evh"
theorem zxb:∀ l:List (Rat×Rat),lfL (l.map fun q=>hD (hom q))=true
 | []=>rfl
 | q::l=>by rw [Zv];unfold lfL;rw [zxb l];rfl
theorem ybz {φ:List D->Option W} (h30:Γ 30=φ) {L:List D} {x y:D} {a b c d:Option D} (f:φ [x]=some (.val y)):zsv Γ (.call 30 (.cons (.var 1) .nil)) (.name 1) 2 [] .non [some (.lst L),a,b,c,d] x=some (some y):=by
 walk_at "evh"
theorem yir {L:List D} {a b c d:Option D}:evW Γ (.seqV 0) [some (.lst L),a,b,c,d]=some L:=by
 walk_at "evh"
theorem znp {n:Nat} {l:List (Rat×Rat)} (hS:IsShp l) (hz:SzL n l) (hn:n<=1000) (hl:l.length<=1000):zcs [.lst (l.map stD)]=some (.val (.bl true)):=by
 unfold zcs;generalize hΓ:tab zdi=Γ;have h14:Γ 14=znl:=by rw [<- hΓ];rfl
 have h30:Γ 30=zen:=by rw [<- hΓ];rfl
 have h32:Γ 32=zdx:=by rw [<- hΓ];rfl
 have h31:Γ 31=mWay:=by rw [<- hΓ];rfl
 clear hΓ;have three:=hS.three;have hb:∀ q∈l,HB (n+n) (hom q):=fun q hq=>znt (hz q hq).1 (hz q hq).2
 have hCl:(l.map fun q=>hD (hom q)).length=l.length:=Zd ..;have hCi:∀ (i:Nat) (q:Rat×Rat),l[i]? = some q->(l.map fun q=>hD (hom q))[i]? = some (hD (hom q)):=fun i q e=>by rw [Zk,e];rfl
 obtain⟨r1,f1,o1,e1⟩:=zdn (bt:=B5 (.name 1)) (fb:=exs Γ bS1) (I:=fun r=>∃ o,r=[some (.sh (.lst (l.map stD))),o,none,none,none]) (l.map stD) (fun d hd ρ hρ=>by
  refine xb hρ fun o qz1=>?_;clear hρ;subst qz1
  refine xa (Zz.mp hd) fun q hq e=>?_;subst e;exact⟨_,_,rfl,isS1 h14 (zrg q.1) (zrg q.2),⟨_,rfl⟩⟩) _ ⟨none,rfl⟩
 subst e1;obtain⟨r2,f2,o2,e2⟩:=zdn (bt:=B5 (.name 3)) (fb:=exs Γ bS2) (I:=fun r=>∃ o,r=[some (.sh (.lst (l.map stD))),o1,some (.ow (l.map fun q=>hD (hom q))),o,none]) (zag 1 (((l.map fun q=>hD (hom q)).length:Int)-1).toNat) (fun d hd ρ hρ=>by
  refine xb hρ fun o qz1=>?_;clear hρ;subst qz1
  unfold zag at hd;refine xa (Zz.mp hd) fun i hi e=>?_;subst e;have hi':=Wi.mp hi;rw [hCl] at hi';have hil:i+1<l.length:=by omega
  have g0:l[0]? = some (l[0]'(by omega)):=Ze _;have g1:l[i+1]? = some (l[i+1]'hil):=Ze _;have w:=ztw (hb _ (Zn g0)) (hb _ (Zn g1)) (by omega);rw [(ykj _ _).mpr (hS.first i _ _ g0 g1)] at w;exact⟨_,_,rfl,isS2 h32 (by rw [zdg (Je _) (by omega)];exact hCi 0 _ g0) (by rw [zdg (by omega) (by omega),show (1+(i:Int)).toNat=i+1 by omega];exact hCi (i+1) _ g1) w,⟨_,rfl⟩⟩) _ ⟨none,rfl⟩
 subst e2;refine xa (zxg h31 hS hb hn hl (L:=.lst (l.map stD)) (o1:=o1) (o2:=o2)) fun r3 f3 _=>?_;refine yis f1 (fun a b c d=>zii (g:=stD) yir (by rw [Yr];omega) rfl fun q hq=>ybz h30 (zgu (hz q hq).1 (hz q hq).2 (by omega))) (zxb l) f2 f3 (decide_eq_false (by rw [Zd];omega)) (eq_true (by rw [Zd];omega))
end
open Sf
abbrev Lft (ps:List (Int×Int)):Prop:=∃ o p q,o∈ps/\p∈ps/\q∈ps/\0<Hu.o3 o p q
theorem ztd {ps:List (Int×Int)} (h:Lft ps):Hu.RingOk (zbk ps) (Hu.ring (zbk ps))/\3<=(Hu.ring (zbk ps)).length:=by
 refine xo h fun o p q ho hp hq hl=>?_;clear h
 have ne:o≠p:=fun e=>by subst e;rw [Hu.o3_aa] at hl;omega
 have h2:2<=(zbk ps).length:=by
  have mo:=sortP_mem.mpr ho;have mp:=sortP_mem.mpr hp;match hs:zbk ps with
  | []=>rw [hs] at mo;cases mo
  | [x]=>
   rw [hs] at mo mp;exact absurd ((Zt.mp mo).trans (Zt.mp mp).symm) ne
  | x::y::r=>simp
 have R:=Hu.ring_ok (zvc ps) h2;exact⟨R,R.big o p q (sortP_mem.mpr ho) (sortP_mem.mpr hp) (sortP_mem.mpr hq) (by omega)⟩
theorem zmi (b f s:Int) (p:Int×Int):(spot b f s p).1=((p.1:Rat)*(b:Rat)+(f:Rat))*(s:Rat)⁻¹:=by
 unfold spot;simp only
 rw [Uy,Rat.div_def,Vk,Z7]
theorem zmh (b f s:Int) (p:Int×Int):(spot b f s p).2=((p.2:Rat)*(b:Rat)-2*(f:Rat))*(s:Rat)⁻¹:=by
 unfold spot;simp only
 rw [Uy,Rat.div_def,Qo,Z7,Z7];rfl
theorem yhy (a b c:Int×Int):((Hu.o3 a b c:Int):Rat)=((b.1:Rat)-(a.1:Rat))*((c.2:Rat)-(a.2:Rat))-((b.2:Rat)-(a.2:Rat))*((c.1:Rat)-(a.1:Rat)):=by
 unfold Hu.o3 Hu.cr Hu.sb;simp only [Qo,Z7]
theorem yhw (b f s:Int) (x y z:Int×Int):oR (spot b f s x) (spot b f s y) (spot b f s z)=((b:Rat)*(s:Rat)⁻¹)*((b:Rat)*(s:Rat)⁻¹)*((Hu.o3 x y z:Int):Rat):=by
 unfold oR;rw [zmi,zmi,zmi,zmh,zmh,zmh,yhy];generalize (s:Rat)⁻¹=k;grind
theorem yfn {b s:Int} (hb:1<=b) (hs:1<=s):(0:Rat)<(b:Rat)*(s:Rat)⁻¹:=Y7 (cast_pos.mpr (by omega)) (Gv.mpr (cast_pos.mpr (by omega)))
theorem zpc {b f s:Int} (hb:1<=b) (hs:1<=s) {x y z:Int×Int} (h:0<Hu.o3 x y z):0<oR (spot b f s x) (spot b f s y) (spot b f s z):=by
 rw [yhw];exact Y7 (Y7 (yfn hb hs) (yfn hb hs)) (cast_pos.mpr h)
theorem zpg {b f s:Int} (hb:1<=b) (hs:1<=s) {x y:Int×Int} (h:Hu.lt x y):ltR (spot b f s x) (spot b f s y):=by
 have hk:=Gv.mpr (cast_pos.mpr (show 0<s by omega));have hb':=cast_pos.mpr (show 0<b by omega);unfold ltR;rw [zmi,zmi,zmh,zmh];rcases h with h | ⟨h1,h2⟩
 ·left
  rw [Wx hk];have:=(Wx hb').mpr (Wz.mpr h)
  grind
 ·right
  refine⟨by rw [h1],?_⟩
  rw [Wx hk];have:=(Wx hb').mpr (Wz.mpr h2)
  grind
theorem yii {R:List (Int×Int)} {i:Nat} {a:Int×Int} (h:R[i]? = some a):i<R.length:=(Zl.mp h).1
theorem nd_ne {R:List (Int×Int)} (nd:R.Nodup) {i j:Nat} {a b:Int×Int} (h1:R[i]? = some a) (h2:R[j]? = some b) (h:i≠j):a≠b:=fun e=>by
 subst e;refine xb (Zl.mp h1) fun l1 e1=>?_;refine xb (Zl.mp h2) fun l2 e2=>?_;exact h ((Qz nd).mp (e1.trans e2.symm))
theorem shp_of {l R:List (Int×Int)} (hR:Hu.RingOk l R) (h3:3<=R.length) {b f s:Int} (hb:1<=b) (hs:1<=s):IsShp (R.map (spot b f s)):=by
 refine⟨by rw [Zd];exact h3,fun k q0 q h0 hk=>?_,fun k a b' c ha hb' hc ca cb=>?_⟩
 ·rw [Zk] at h0 hk;refine xa (Zb.mp h0) fun p0 e0 qz2=>?_;subst qz2
  refine xa (Zb.mp hk) fun p e1 qz2=>?_;subst qz2
  rcases hR.first p0 e0 p (hR.sub p (Zn e1)) with e | e
  ·exact absurd e.symm (nd_ne hR.nd e0 e1 (by omega))
  ·exact zpg hb hs e
 ·rw [Zk,Zd] at ha;rw [Zk] at hb';refine xa (Zb.mp ha) fun pa ea qz2=>?_;subst qz2
  refine xa (Zb.mp hb') fun pb eb qz2=>?_;subst qz2
  refine xa (Zz.mp hc) fun pc hpc qz2=>?_;subst qz2
  have hk:=yii eb;have e:((k+R.length-1)%R.length+1)%R.length=k:=by
   rcases Wm k with z | z
   ·subst z;rw [Z5 (show 0+R.length-1<R.length by omega),show 0+R.length-1+1=R.length by omega,K0]
   ·rw [show k+R.length-1=(k-1)+R.length by omega,Qp,Z5 (show k-1<R.length by omega),show k-1+1=k by omega,Z5 hk]
  exact zpc hb hs (hR.strict _ _ _ _ ea (by rw [e];exact eb) hpc (fun z=>ca (by rw [z])) (fun z=>cb (by rw [z])))
section
variable {Γ:Nat->List D->Option W}
end
open Sf
section
variable {Γ:Nat->List D->Option W}
end
open Sf
theorem cut_to {l:List D} {a:Nat} (h:a<=l.length):cutD l none (some (a:Int))=l.take a:=by
 unfold cutD;rw [HT.sIx_none,HT.sIx_nat,Ub,Gf,Jv h]
theorem ycm {l:List D} {a:Nat} (h:a<=l.length):cutD l (some (a:Int)) none=l.drop a:=by
 unfold cutD;rw [HT.sIx_none,HT.sIx_nat,Jv h,Jf (by rw [Ys];exact Zh _)]
section
variable {Γ Γ':Nat->List D->Option W}
end
open Sf
noncomputable def t3 (a b c:Rat):H3:=(a.num*((b.den:Int)*(c.den:Int)),b.num*((a.den:Int)*(c.den:Int)),c.num*((a.den:Int)*(b.den:Int)))
noncomputable def g3 (t:H3):Int:=gc (gc (gc 0 t.1) t.2.1) t.2.2
noncomputable def low3 (a b c:Rat):H3:=((t3 a b c).1.fdiv (g3 (t3 a b c)),(t3 a b c).2.1.fdiv (g3 (t3 a b c)),(t3 a b c).2.2.fdiv (g3 (t3 a b c)))
theorem zrq (t:H3):g3 t∣t.1/\g3 t∣t.2.1/\g3 t∣t.2.2:=by
 unfold g3 gc;have h1:=Ko (a:=((Int.gcd (Int.gcd 0 t.1:Int) t.2.1:Nat):Int)) (b:=t.2.2);have h2:=Ko (a:=((Int.gcd 0 t.1:Nat):Int)) (b:=t.2.1);have h3:=Qd (a:=0) (b:=t.1);have h4:=Qd (a:=((Int.gcd 0 t.1:Nat):Int)) (b:=t.2.1);have h5:=Qd (a:=((Int.gcd (Int.gcd 0 t.1:Int) t.2.1:Nat):Int)) (b:=t.2.2);exact⟨Qg h1 (Qg h2 h3),Qg h1 h4,h5⟩
theorem dvd_g3 {t:H3} {d:Int} (h1:d∣t.1) (h2:d∣t.2.1) (h3:d∣t.2.2):d∣g3 t:=by
 unfold g3 gc;exact Vr (Vr (Vr (Int.dvd_zero d) h1) h2) h3
theorem yfa {t:H3} (h:t.1≠0\/t.2.1≠0\/t.2.2≠0):0<g3 t:=by
 have nn:0<=g3 t:=K3 _;have ne:g3 t≠0:=fun e=>by
  refine xj (zrq t) fun d1 d2 d3=>?_;rw [e] at d1 d2 d3;have e1:=Gk.mp d1;have e2:=Gk.mp d2;have e3:=Gk.mp d3;rcases h with h | h | h
  ·exact h e1
  ·exact h e2
  ·exact h e3
 omega
structure Low3 (a b c:Rat) (t:H3):Prop where
 co:gc (gc t.1 t.2.1) t.2.2=1
 scale:∃ k:Rat,0<k/\(t.1:Rat)=k*a/\(t.2.1:Rat)=k*b/\(t.2.2:Rat)=k*c
theorem zwz {a b c:Rat} (h:a≠0\/b≠0):Low3 a b c (low3 a b c):=by
 have da:=zam a;have db:=zam b;have dc:=zam c;have hne:(t3 a b c).1≠0\/(t3 a b c).2.1≠0\/(t3 a b c).2.2≠0:=by
  rcases h with h | h
  ·left
   exact Yx (fun e=>h (num_zero.mp e)) (Yx (by omega) (by omega))
  ·right;left
   exact Yx (fun e=>h (num_zero.mp e)) (Yx (by omega) (by omega))
 have gp:=yfa hne;obtain⟨⟨x,e1⟩,⟨y,e2⟩,⟨z,e3⟩⟩:=zrq (t3 a b c)
 have f1:(t3 a b c).1.fdiv (g3 (t3 a b c))=x:=by
  conv=>lhs;lhs;rw [e1]
  exact Ye _ (by omega)
 have f2:(t3 a b c).2.1.fdiv (g3 (t3 a b c))=y:=by
  conv=>lhs;lhs;rw [e2]
  exact Ye _ (by omega)
 have f3:(t3 a b c).2.2.fdiv (g3 (t3 a b c))=z:=by
  conv=>lhs;lhs;rw [e3]
  exact Ye _ (by omega)
 unfold low3;rw [f1,f2,f3];generalize hg:g3 (t3 a b c)=g at *;refine⟨?_,?_⟩
 ·have nn:0<=gc (gc x y) z:=gc_nn _ _;have d0:gc (gc x y) z∣z:=Qd _ _;have d1:gc (gc x y) z∣gc x y:=Ko _ _;have d2:gc (gc x y) z∣x:=Qg d1 (Ko _ _);have d3:gc (gc x y) z∣y:=Qg d1 (Qd _ _);simp only
  generalize gc (gc x y) z=d at *;have dg:g*d∣g3 (t3 a b c):=dvd_g3 (by rw [e1];exact Uc g d2) (by rw [e2];exact Uc g d3) (by rw [e3];exact Uc g d0);rw [hg] at dg;refine xb dg fun k hk=>?_;clear dg
  have:d*k=1:=by
   apply Int.eq_of_mul_eq_mul_left (show g≠0 by omega)
   rw [<- Up,<- hk,Vq]
  exact Int.eq_one_of_mul_eq_one_right nn this
 ·have gr:(0:Rat)<(g:Rat):=cast_pos.mpr gp;have gi:=Gv.mpr gr;have gne:(g:Rat)≠0:=fun e=>by rw [e] at gr;exact absurd gr (by decide)
  have A:=cast_pos.mpr da;have Bp:=cast_pos.mpr db;have Cp:=cast_pos.mpr dc;refine⟨((a.den:Int):Rat)*((b.den:Int):Rat)*((c.den:Int):Rat)*(g:Rat)⁻¹,Y7 (Y7 (Y7 A Bp) Cp) gi,?_,?_,?_⟩
  ·have q:((t3 a b c).1:Rat)=(g:Rat)*(x:Rat):=by rw [e1,Z7]
   have q2:((t3 a b c).1:Rat)=a*((a.den:Int):Rat)*(((b.den:Int):Rat)*((c.den:Int):Rat)):=by
    unfold t3;simp only [Z7];rw [znf a]
   have q3:(x:Rat)=(g:Rat)⁻¹*((g:Rat)*(x:Rat)):=by rw [<- V5,Uo _ gne,Gu]
   simp only
   rw [q3,<- q,q2];grind
  ·have q:((t3 a b c).2.1:Rat)=(g:Rat)*(y:Rat):=by rw [e2,Z7]
   have q2:((t3 a b c).2.1:Rat)=b*((b.den:Int):Rat)*(((a.den:Int):Rat)*((c.den:Int):Rat)):=by
    unfold t3;simp only [Z7];rw [znf b]
   have q3:(y:Rat)=(g:Rat)⁻¹*((g:Rat)*(y:Rat)):=by rw [<- V5,Uo _ gne,Gu]
   simp only
   rw [q3,<- q,q2];grind
  ·have q:((t3 a b c).2.2:Rat)=(g:Rat)*(z:Rat):=by rw [e3,Z7]
   have q2:((t3 a b c).2.2:Rat)=c*((c.den:Int):Rat)*(((a.den:Int):Rat)*((b.den:Int):Rat)):=by
    unfold t3;simp only [Z7];rw [znf c]
   have q3:(z:Rat)=(g:Rat)⁻¹*((g:Rat)*(z:Rat)):=by rw [<- V5,Uo _ gne,Gu]
   simp only
   rw [q3,<- q,q2];grind
theorem t3_bd {n:Nat} {a b c:Rat} (ha:Sz n a) (hb:Sz n b) (hc:Sz n c):HB (n+(n+n)) (t3 a b c):=
 ⟨Bw ha.t (Bw (Bq hb) (Bq hc)),Bw hb.t (Bw (Bq ha) (Bq hc)),Bw hc.t (Bw (Bq ha) (Bq hb))⟩
section
variable {Γ:Nat->List D->Option W}
noncomputable def zpf:List D->Option W:=run (tab [(0,zab)]) zak 6
theorem ok_lowest_whole (h0:Γ 0=zab):∀ ds w,ds.length=1->zpf ds=some w->run Γ zak 6 ds=some w:=fun ds w _ h=>zcb [(0,zab)] (by intro p hp;rcases Zt.mp hp with rfl;exact h0) (by decide) ds w h
theorem zpm {x d y:Int} (hd:d≠0) (e:x=d*y):x.fdiv d=y:=by rw [e];exact Ye _ hd
noncomputable abbrev cLw:E:=(.comp (.bin .mul (.ix (.var 1) (.int 0)) (.bin .fdiv (.var 2) (.ix (.var 1) (.int 1)))) (.name 1) (.seqV 0) 2 [1] .non)
noncomputable abbrev fLw:E:=(.fm .tupl (.cons (.comp (.bin .fdiv (.var 1) (.var 2)) (.name 1) (.seqV 3) 2 [4] .non) .nil))
theorem ybo (h0:Γ 0=zab) {A1 B1 C1:D} {a b c u1 u2 u3 g:Int} {O:D} (ia:ixD A1 (.int 1)=some (.int a)) (ib:ixD B1 (.int 1)=some (.int b)) (ic:ixD C1 (.int 1)=some (.int c)) (lA:lf A1=true) (lB:lf B1=true) (lC:lf C1=true) (m0:B0 1 a=true) (e0:1*a=a) (m1:B0 a b=true) (m2:B0 (a*b) c=true)
  (hT:∀ x y u v,ev Γ cLw [some (.tup [A1,B1,C1]),some (.int (a*b*c)),x,y,u,v]=some (.new [.int u1,.int u2,.int u3])) (hU:∀ x y z u,ev Γ fLw [x,y,z,some (.lst [.int u1,.int u2,.int u3]),some (.int g),u]=some (.val O)) (gE:gc (gc (gc 0 u1) u2) u3=g):run Γ zak 6 [.tup [A1,B1,C1]]=some (.val O):=by
 have hf6:∀ a b c d e f:Option B,frz [a,b,c,d,e,f]=[a.map fun x=>.sh x.d,b.map fun x=>.sh x.d,c.map fun x=>.sh x.d,d.map fun x=>.sh x.d,e.map fun x=>.sh x.d,f.map fun x=>.sh x.d]:=fun _ _ _ _ _ _=>rfl
 have md:=@zcn;unfold zak;unfold cLw at hT;unfold fLw at hU;generalize hc1:E.comp (.bin .mul (.ix (.var 1) (.int 0)) (.bin .fdiv (.var 2) (.ix (.var 1) (.int 1)))) (.name 1) (.seqV 0) 2 [1] .non=ce at *;generalize hc2:E.fm .tupl _=cf at *;clear hc1 hc2;walk_at "evh"
 unfold forN;walk_at "evh"
 unfold forN;walk_at "evh"
 unfold forN;walk_at "evh"
 unfold forN;walk_at "evh"
 unfold forN;walk_at "evh"
 unfold forN;walk_at "evh"
 unfold forN;walk_at "evh"
 unfold forN;walk_at "evh"
theorem ybp {n:Nat} {a b c:Rat} (ha:Sz n a) (hb:Sz n b) (hc:Sz n c) (hn:n<=1000) (hne:a≠0\/b≠0):zpf [.tup [fr a,fr b,fr c]]=some (.val (hD (low3 a b c))):=by
 unfold zpf;generalize hΓ:tab [(0,zab)]=Γ;have h0:Γ 0=zab:=by rw [<- hΓ];rfl
 have da:=zam a;have db:=zam b;have dc:=zam c;have tb:=t3_bd ha hb hc;have hnz:(t3 a b c).1≠0\/(t3 a b c).2.1≠0\/(t3 a b c).2.2≠0:=by
  rcases hne with h | h
  ·left
   exact Yx (fun e=>h (num_zero.mp e)) (Yx (by omega) (by omega))
  ·right;left
   exact Yx (fun e=>h (num_zero.mp e)) (Yx (by omega) (by omega))
 have gp:=yfa hnz;have gb:(g3 (t3 a b c)).natAbs<2^(n+(n+n)):=by
  refine xj (zrq (t3 a b c)) fun d1 d2 d3=>?_;rcases hnz with h | h | h
  ·exact Kf (zaj d1 h) tb.a
  ·exact Kf (zaj d2 h) tb.b
  ·exact Kf (zaj d3 h) tb.c
 have m0:B0 1 (a.den:Int)=true:=Bv (n:=n) (m:=1) (by decide) (Bq ha) (by decide) (by omega);have e0:(1:Int)*(a.den:Int)=a.den:=Int.one_mul _;have m1:B0 (a.den:Int) (b.den:Int)=true:=Bv (Bq ha) (Bq hb) (by omega) (by omega);have m2:B0 ((a.den:Int)*(b.den:Int)) (c.den:Int)=true:=Bv (Bw (Bq ha) (Bq hb)) (Bq hc) (by omega) (by omega);have o1:zcy (a.den:Int)=true:=zce (by omega) (Bq ha) (by omega);have o2:zcy (b.den:Int)=true:=zce (by omega) (Bq hb) (by omega);have o3:zcy (c.den:Int)=true:=zce (by omega) (Bq hc) (by omega);have o4:zcy (g3 (t3 a b c))=true:=zce (by omega) gb (by omega);have q1:((a.den:Int)*(b.den:Int)*(c.den:Int)).fdiv (a.den:Int)=(b.den:Int)*(c.den:Int):=zpm (by omega) (by rw [Up]);have q2:((a.den:Int)*(b.den:Int)*(c.den:Int)).fdiv (b.den:Int)=(a.den:Int)*(c.den:Int):=zpm (by omega) (by rw [Q7 (a.den:Int) (b.den:Int),Up]);have q3:((a.den:Int)*(b.den:Int)*(c.den:Int)).fdiv (c.den:Int)=(a.den:Int)*(b.den:Int):=zpm (by omega) (by rw [Q7]);have k1:B0 a.num ((b.den:Int)*(c.den:Int))=true:=Bv ha.t (Bw (Bq hb) (Bq hc)) (by omega) (by omega);have k2:B0 b.num ((a.den:Int)*(c.den:Int))=true:=Bv hb.t (Bw (Bq ha) (Bq hc)) (by omega) (by omega);have k3:B0 c.num ((a.den:Int)*(b.den:Int))=true:=Bv hc.t (Bw (Bq ha) (Bq hb)) (by omega) (by omega);have hT:∀ x y u v,ev Γ (.comp (.bin .mul (.ix (.var 1) (.int 0)) (.bin .fdiv (.var 2) (.ix (.var 1) (.int 1)))) (.name 1) (.seqV 0) 2 [1] .non) [some (.tup [fr a,fr b,fr c]),some (.int ((a.den:Int)*(b.den:Int)*(c.den:Int))),x,y,u,v]=some (.new [.int (t3 a b c).1,.int (t3 a b c).2.1,.int (t3 a b c).2.2]):=by
  intro x y u v;have:=zii (Γ:=Γ) (ρ:=[some (.tup [fr a,fr b,fr c]),some (.int ((a.den:Int)*(b.den:Int)*(c.den:Int))),x,y,u,v]) (elt:=.bin .mul (.ix (.var 1) (.int 0)) (.bin .fdiv (.var 2) (.ix (.var 1) (.int 1)))) (t:=.name 1) (it:=.seqV 0) (nt:=2) (fr:=[1]) (c:=.non) (l:=[(a,(t3 a b c).1),(b,(t3 a b c).2.1),(c,(t3 a b c).2.2)]) (g:=fun p=>fr p.1) (h:=fun p=>.int p.2) (by rfl) (by show 3<=PySem.sizeLine;decide) rfl (fun p hp=>?_)
  ·exact this
  ·simp only [Zi,W2,or_false] at hp;clear tb hnz gp gb m0 m1 m2 o4 ha hb hc da db dc hne hΓ e0;rcases hp with rfl | rfl | rfl <;> unfold t3 <;> walk_at "evh"
 have hU:∀ x y z u,ev Γ (.fm .tupl (.cons (.comp (.bin .fdiv (.var 1) (.var 2)) (.name 1) (.seqV 3) 2 [4] .non) .nil)) [x,y,z,some (.lst [.int (t3 a b c).1,.int (t3 a b c).2.1,.int (t3 a b c).2.2]),some (.int (g3 (t3 a b c))),u]=some (.val (hD (low3 a b c))):=by
  intro x y z u;have:=zii (Γ:=Γ) (ρ:=[x,y,z,some (.lst [.int (t3 a b c).1,.int (t3 a b c).2.1,.int (t3 a b c).2.2]),some (.int (g3 (t3 a b c))),u]) (elt:=.bin .fdiv (.var 1) (.var 2)) (t:=.name 1) (it:=.seqV 3) (nt:=2) (fr:=[4]) (c:=.non) (l:=[(t3 a b c).1,(t3 a b c).2.1,(t3 a b c).2.2]) (g:=fun p=>.int p) (h:=fun p=>.int (p.fdiv (g3 (t3 a b c)))) (by rfl) (by show 3<=PySem.sizeLine;decide) rfl (fun p hp=>by
    clear hp tb hnz gp gb m0 m1 m2 ha hb hc da db dc hne hΓ hT e0;walk_at "evh")
  rw [ev_fm,zrx,zxt];unfold evd;rw [this];rfl
 have gE:gc (gc (gc 0 (t3 a b c).1) (t3 a b c).2.1) (t3 a b c).2.2=g3 (t3 a b c):=rfl;exact ybo h0 ixf1 ixf1 ixf1 lff lff lff m0 e0 m1 m2 hT hU gE
end
open Sf
noncomputable def pairsOf {α:Type} (l:List α):List (α×α):=l.zip (l.drop 1++l.take 1)
theorem zbw {α:Type} (l:List α):(pairsOf l).length=l.length:=by
 unfold pairsOf;rw [Ve,Zq,Ys,W4];omega
theorem znd {α:Type} {l:List α} {k:Nat} {p:α×α} (h:(pairsOf l)[k]? = some p):l[k]? = some p.1/\l[(k+1)%l.length]? = some p.2:=by
 have hk:k<l.length:=by
  have:=(Zl.mp h).1
  rw [zbw] at this;exact this
 unfold pairsOf at h;rw [K2] at h;refine⟨h.1,?_⟩
 have h2:=h.2;rcases Wg (k+1) l.length with q | q
 ·rw [Z2 (by rw [Ys];omega),Ku,U0] at h2;rw [Z5 q];exact h2
 ·have e:k+1=l.length:=by omega
  rw [Zu (by rw [Ys];omega),Ys,show k-(l.length-1)=0 by omega,K8 (by decide)] at h2;rw [e,K0];exact h2
theorem zip_map (l:List (Rat×Rat)):zipD (l.map stD) ((l.map stD).drop 1++(l.map stD).take 1)=(pairsOf l).map fun p=>D.tup [stD p.1,stD p.2]:=by
 unfold zipD pairsOf;rw [<- Ja,<- Ui,<- Yk,List.zip_map,W6];rfl
noncomputable def zec (s e:Rat×Rat):H3:=low3 (s.2-e.2) (e.1-s.1) ((s.2-e.2)*s.1+(e.1-s.1)*s.2)
theorem zkp {s e:Rat×Rat} (h:s≠e):s.2-e.2≠0\/e.1-s.1≠0:=by
 refine Yn fun hn=>h ?_
 have h1:s.2-e.2=0:=Yn fun z=>hn (.inl z)
 have h2:e.1-s.1=0:=Yn fun z=>hn (.inr z)
 refine W5 ?_ ?_
 ·grind
 ·grind
theorem ygo {s e:Rat×Rat} (hs1:Sz 64 s.1) (hs2:Sz 64 s.2) (he1:Sz 64 e.1) (he2:Sz 64 e.2) (h:s≠e):HB 1200 (zec s e):=by
 have ha:=hs2.sub he2;have hb:=he1.sub hs1;have hc:=(ha.mul hs1).add (hb.mul hs2);have tb:=t3_bd (ha.mono (show 64+64+1<=400 by decide)) (hb.mono (show 64+64+1<=400 by decide)) (hc.mono (show (64+64+1+64)+(64+64+1+64)+1<=400 by decide));refine xj (zrq (t3 (s.2-e.2) (e.1-s.1) ((s.2-e.2)*s.1+(e.1-s.1)*s.2))) fun d1 d2 d3=>?_;have key:∀ t g:Int,g∣t->t.natAbs<2^1200->(t.fdiv g).natAbs<2^1200:=fun t g hd ht=>by
  refine xb hd fun x hx=>?_;clear hd
  rcases G8 (g=0) with z | z
  ·rw [z,Int.fdiv_zero];exact Nat.two_pow_pos _
  ·rw [hx,Ye _ z];rcases G8 (x=0) with zx | zx
   ·rw [zx];exact Nat.two_pow_pos _
   ·refine Kf ?_ ht;exact zaj ⟨g,by rw [hx,Q7]⟩ (by rw [hx];exact Yx z zx)
 exact⟨key _ _ d1 tb.a,key _ _ d2 tb.b,key _ _ d3 tb.c⟩
section
variable {Γ:Nat->List D->Option W}
noncomputable def zek:List D->Option W:=run (tab []) zis 1
theorem ok_steps:∀ ds w,ds.length=1->zek ds=some w->run Γ zis 1 ds=some w:=fun ds w _ h=>zcb [] (fun p hp=>by cases hp) (by decide) ds w h
theorem zuy {L:List D} (h1:1<=L.length) (h2:L.length<=1000):zek [.lst L]=some (.new (zipD L (L.drop 1++L.take 1))):=by
 have c1:=ycm (l:=L) (a:=1) h1;have c2:=cut_to (l:=L) (a:=1) h1;rw [show ((1:Nat):Int)=1 from rfl] at c1 c2;have ad:opW .add (.lst (L.drop 1)) (.lst (L.take 1))=some (.new (L.drop 1++L.take 1)):=by
  show (if _ then some (W.new _) else none)=_;rw [if_pos (by rw [Yr,Ys,W4];omega)]
 have zz:fmW .zip [.lst L,.lst (L.drop 1++L.take 1)]=some (.new (zipD L (L.drop 1++L.take 1))):=by
  show (if _ then some (W.new _) else none)=_;rw [if_pos (by rw [Zq,Ys,W4];omega)]
 generalize zipD L (L.drop 1++L.take 1)=Z at *;generalize L.drop 1++L.take 1=Y at *;generalize L.drop 1=Y1 at *;generalize L.take 1=Y2 at *;clear h1 h2;unfold zek zis;walk_at "evh"
noncomputable abbrev zgn:List (Nat×(List D->Option W)):=[(9,zfi),(10,zhz),(11,zhx),(43,zpf)]
noncomputable def zel:List D->Option W:=run (tab zgn) zat 5
theorem ok_side_between (h9:Γ 9=zfi) (h10:Γ 10=zhz) (h11:Γ 11=zhx) (h43:Γ 43=zpf):∀ ds w,ds.length=2->zel ds=some w->run Γ zat 5 ds=some w:=fun ds w _ h=>zcb zgn (by
 intro p hp;simp only [zgn,Zi,W2,or_false] at hp;rcases hp with rfl | rfl | rfl | rfl <;> assumption) (by decide) ds w h
theorem zve {s e:Rat×Rat} (hs1:Sz 64 s.1) (hs2:Sz 64 s.2) (he1:Sz 64 e.1) (he2:Sz 64 e.2) (h:s≠e):zel [stD s,stD e]=some (.val (hD (zec s e))):=by
 unfold zel;generalize hΓ:tab zgn=Γ;have h9:Γ 9=zfi:=by rw [<- hΓ];rfl
 have h10:Γ 10=zhz:=by rw [<- hΓ];rfl
 have h11:Γ 11=zhx:=by rw [<- hΓ];rfl
 have h43:Γ 43=zpf:=by rw [<- hΓ];rfl
 have ha:=hs2.sub he2;have hb:=he1.sub hs1;have q1:zhz [fr s.2,fr e.2]=some (.val (fr (s.2-e.2))):=zfv (zda hs2 he2 (by decide) (by decide));have q2:zhz [fr e.1,fr s.1]=some (.val (fr (e.1-s.1))):=zfv (zda he1 hs1 (by decide) (by decide));have q3:zhx [fr (s.2-e.2),fr s.1]=some (.val (fr ((s.2-e.2)*s.1))):=zfv (zda ha hs1 (by decide) (by decide));have q4:zhx [fr (e.1-s.1),fr s.2]=some (.val (fr ((e.1-s.1)*s.2))):=zfv (zda hb hs2 (by decide) (by decide));have q5:zfi [fr ((s.2-e.2)*s.1),fr ((e.1-s.1)*s.2)]=some (.val (fr ((s.2-e.2)*s.1+(e.1-s.1)*s.2))):=zfv (zda (ha.mul hs1) (hb.mul hs2) (by decide) (by decide));have hc:=(ha.mul hs1).add (hb.mul hs2);have q6:=ybp (ha.mono (show 64+64+1<=400 by decide)) (hb.mono (show 64+64+1<=400 by decide)) (hc.mono (show (64+64+1+64)+(64+64+1+64)+1<=400 by decide)) (by decide) (zkp h);have q7:hD (low3 (s.2-e.2) (e.1-s.1) ((s.2-e.2)*s.1+(e.1-s.1)*s.2))=hD (zec s e):=rfl;rw [q7] at q6;generalize hD (zec s e)=O at *;clear ha hb hc hs1 hs2 he1 he2 h hΓ q7;unfold zat stD;walk_at "evh"
noncomputable def zhy:List D->Option W:=run (tab [(41,zek),(42,zel)]) zbv 1
theorem ok_sides_of (h41:Γ 41=zek) (h42:Γ 42=zel):∀ ds w,ds.length=1->zhy ds=some w->run Γ zbv 1 ds=some w:=fun ds w _ h=>zcb [(41,zek),(42,zel)] (by
 intro p hp;simp only [Zi,W2,or_false] at hp;rcases hp with rfl | rfl <;> assumption) (by decide) ds w h
noncomputable def B4 (l:List (Rat×Rat)):List H3:=(pairsOf l).map fun p=>zec p.1 p.2
theorem zwe {l:List (Rat×Rat)} (nd:l.Nodup) (h2:2<=l.length) {p:(Rat×Rat)×(Rat×Rat)} (hp:p∈pairsOf l):p.1≠p.2/\p.1∈l/\p.2∈l:=by
 refine xb (Yg hp) fun k hk=>?_;refine xg (znd hk) fun g1 g2=>?_;refine⟨fun e=>?_,Zn g1,Zn g2⟩
 rw [e] at g1;refine xb (Zl.mp g1) fun l1 e1=>?_;refine xb (Zl.mp g2) fun l2 e2=>?_;have:=(Qz nd).mp (e1.trans e2.symm)
 rcases Wg (k+1) l.length with q | q
 ·rw [Z5 q] at this;omega
 ·rw [show k+1=l.length by omega,K0] at this;omega
theorem zmn {l:List (Rat×Rat)} (nd:l.Nodup) (h2:2<=l.length) (hl:l.length<=1000) (hz:SzL 64 l):zhy [.lst (l.map stD)]=some (.new ((B4 l).map hD)):=by
 unfold zhy;generalize hΓ:tab [(41,zek),(42,zel)]=Γ;have h41:Γ 41=zek:=by rw [<- hΓ];rfl
 have h42:Γ 42=zel:=by rw [<- hΓ];rfl
 have st:=zuy (L:=l.map stD) (by rw [Zd];omega) (by rw [Zd];exact hl);rw [zip_map] at st;have pl:=zbw l;have hcomp:ev Γ (.comp (.call 42 (.cons (.var 1) (.cons (.var 2) .nil))) (.tup [1,2]) (.seq (.call 41 (.cons (.var 0) .nil))) 3 [] .non) [some (.lst (l.map stD))]=some (.new ((pairsOf l).map fun p=>hD (zec p.1 p.2))):=by
  refine zii (g:=fun p=>D.tup [stD p.1,stD p.2]) ?_ (by rw [Yr];omega) rfl fun p hp=>?_
  ·generalize (pairsOf l).map (fun p=>D.tup [stD p.1,stD p.2])=Z at *;clear nd h2 hl hz hΓ pl;walk_at "evh"
  ·refine xj (zwe nd h2 hp) fun ne m1 m2=>?_;have sb:=zve (hz _ m1).1 (hz _ m1).2 (hz _ m2).1 (hz _ m2).2 ne;generalize hD (zec p.1 p.2)=O at *;generalize stD p.1=x at *;generalize stD p.2=y at *;clear nd h2 hl hz hΓ pl ne m1 m2 hp st;walk_at "evh"
 unfold B4;rw [W6];show run Γ zbv 1 _=some (.new ((pairsOf l).map fun p=>hD (zec p.1 p.2)));generalize ((pairsOf l).map fun p=>hD (zec p.1 p.2))=O at *;unfold zbv;generalize hce:E.comp _ _ _ _ _ _=ce at *;clear nd h2 hl hz hΓ pl hce st;walk_at "evh"
end
open Sf
theorem yai {b f s:Int} (hb:1<=b) (hs:1<=s) {x y:Int×Int} (h:x≠y):spot b f s x≠spot b f s y:=fun e=>by
 have irr:∀ q:Rat×Rat,¬ ltR q q:=fun q h=>by
  rcases h with h | h
  ·exact Rat.lt_irrefl h
  ·exact Rat.lt_irrefl h.2
 rcases Hu.lt_tri x y with q | q | q
 ·have:=zpg (f:=f) hb hs q
  rw [e] at this;exact irr _ this
 ·exact h q
 ·have:=zpg (f:=f) hb hs q
  rw [e] at this;exact irr _ this
theorem yem {b f s:Int} (hb:1<=b) (hs:1<=s):∀ {R:List (Int×Int)},R.Nodup->(R.map (spot b f s)).Nodup
 | [],_=>Ua
 | x::R,h=>by
  rw [Wa] at h;rw [Zv,Wa];refine⟨fun hm=>?_,yem hb hs h.2⟩
  refine xa (Zz.mp hm) fun y hy e=>?_;exact yai hb hs (fun z=>h.1 (by rw [<- z];exact hy)) e
theorem ShapeBy.shp {m:Nat} {l:List (Rat×Rat)} {ps:List (Int×Int)} {b f s:Int} (h:ShapeBy m l ps b f s):IsShp l/\l.Nodup:=by
 refine xg (ztd (ps:=ps) h.pts.left) fun RO r3=>?_;rw [h.eq];exact⟨shp_of RO r3 h.b0 h.s0,yem h.b0 h.s0 RO.nd⟩
theorem zkj (a b:Rat):a<b\/a=b\/b<a:=by
 by_cases h:a<b
 ·exact .inl h
 ·by_cases e:a=b
  ·exact .inr (.inl e)
  ·exact .inr (.inr (by grind))
theorem yeb {a b c:Rat} (h1:a<b) (h2:b<c):a<c:=by grind
theorem zwr (a:Rat×Rat):¬ ltR a a:=fun h=>by
 rcases h with h | ⟨_,h⟩ <;> exact Rat.lt_irrefl h
theorem zic {a b c:Rat×Rat} (h1:ltR a b) (h2:ltR b c):ltR a c:=by
 unfold ltR at *;rcases h1 with h1 | ⟨e1,h1⟩ <;> rcases h2 with h2 | ⟨e2,h2⟩
 ·exact .inl (yeb h1 h2)
 ·exact .inl (by rw [<- e2];exact h1)
 ·exact .inl (by rw [e1];exact h2)
 ·exact .inr ⟨e1.trans e2,yeb h1 h2⟩
theorem zwq (a b:Rat×Rat):ltR a b\/a=b\/ltR b a:=by
 rcases zkj a.1 b.1 with h | h | h
 ·exact .inl (.inl h)
 ·rcases zkj a.2 b.2 with k | k | k
  ·exact .inl (.inr ⟨h,k⟩)
  ·exact .inr (.inl (W5 h k))
  ·exact .inr (.inr (.inr ⟨h.symm,k⟩))
 ·exact .inr (.inr (.inl h))
theorem IsShp.map {l:List (Rat×Rat)} {f:Rat×Rat->Rat×Rat} (hS:IsShp l) (hl:∀ a b,ltR a b->ltR (f a) (f b)) (ho:∀ a b c,0<oR a b c->0<oR (f a) (f b) (f c)):IsShp (l.map f):=by
 refine⟨by rw [Zd];exact hS.three,fun k q0 q h0 hk=>?_,fun k a b c ha hb hc na nb=>?_⟩
 ·rw [Zk] at h0 hk;refine xa (Zb.mp h0) fun x hx e=>?_;refine xa (Zb.mp hk) fun y hy e2=>?_;rw [<- e,<- e2];exact hl _ _ (hS.first k x y hx hy)
 ·rw [Zd,Zk] at ha;rw [Zk] at hb;refine xa (Zb.mp ha) fun x hx e=>?_;refine xa (Zb.mp hb) fun y hy e2=>?_;refine xa (Zz.mp hc) fun z hz e3=>?_;rw [<- e,<- e2,<- e3];exact ho _ _ _ (hS.conv k x y z hx hy hz (fun q=>na (by rw [<- e3,q,e])) fun q=>nb (by rw [<- e3,q,e2]))
noncomputable def pshR (p q:Rat×Rat):Rat×Rat:=(q.1+p.1,q.2+p.2)
noncomputable def szR (k:Rat) (q:Rat×Rat):Rat×Rat:=(q.1*k,q.2*k)
theorem yik {p a b:Rat×Rat} (h:ltR a b):ltR (pshR p a) (pshR p b):=by
 unfold ltR pshR at *;rcases h with h | ⟨e,h⟩
 ·exact .inl (by grind)
 ·exact .inr ⟨by grind,by grind⟩
theorem ltR_sz {k:Rat} (hk:0<k) {a b:Rat×Rat} (h:ltR a b):ltR (szR k a) (szR k b):=by
 unfold ltR szR at *;rcases h with h | ⟨e,h⟩
 ·exact .inl ((Wx hk).mpr h)
 ·exact .inr ⟨by rw [e],(Wx hk).mpr h⟩
theorem oR_psh (p a b c:Rat×Rat):oR (pshR p a) (pshR p b) (pshR p c)=oR a b c:=by unfold oR pshR;grind
theorem oR_sz (k:Rat) (a b c:Rat×Rat):oR (szR k a) (szR k b) (szR k c)=k*k*oR a b c:=by unfold oR szR;grind
theorem IsShp.push {l:List (Rat×Rat)} (hS:IsShp l) (p:Rat×Rat):IsShp (l.map (pshR p)):=hS.map (fun _ _ h=>yik h) fun a b c h=>by rw [oR_psh];exact h
theorem IsShp.size {l:List (Rat×Rat)} (hS:IsShp l) {k:Rat} (hk:0<k):IsShp (l.map (szR k)):=hS.map (fun _ _ h=>ltR_sz hk h) fun a b c h=>by rw [oR_sz];exact Y7 (Y7 hk hk) h
noncomputable def rot {α:Type} (l:List α) (k:Nat):List α:=l.drop k++l.take k
theorem zhs {α:Type} {l:List α} {k:Nat}:(rot l k).length=l.length:=by
 unfold rot;rw [Zq,Ys,W4];omega
theorem zki {α:Type} {l:List α} {k i:Nat} (hk:k<l.length) (hi:i<l.length):(rot l k)[i]? = l[(i+k)%l.length]?:=by
 unfold rot;rcases Wg (i+k) l.length with h | h
 ·rw [Z2 (by rw [Ys];omega),Ku,Z5 h,U0]
 ·rw [Zu (by rw [Ys];omega),Ys,K8 (by omega),G5 h,Z5 (by omega)];congr 1
  omega
theorem rot_mem {α:Type} {l:List α} {k:Nat} {x:α}:x∈rot l k↔x∈l:=by
 unfold rot;rw [Yw,Or.comm,<- Yw,Kj]
theorem ygv {α β:Type} (f:α->β) (l:List α) (k:Nat):(rot l k).map f=rot (l.map f) k:=by
 unfold rot;rw [Yk,Ja,Ui]
structure Fst (l:List (Rat×Rat)) (k:Nat):Prop where
 lt:k<l.length
 low:∀ j p q,j≠k->l[k]? = some p->l[j]? = some q->ltR p q
theorem Fst.uniq {l:List (Rat×Rat)} {k j:Nat} (h:Fst l k) (g:Fst l j):k=j:=by
 refine Yn fun ne=>?_;have a:=h.low j _ _ (Wh ne) (Ze h.lt) (Ze g.lt);have b:=g.low k _ _ ne (Ze g.lt) (Ze h.lt);exact zwr _ (zic a b)
theorem IsShp.fst {l:List (Rat×Rat)} (hS:IsShp l):Fst l 0:=⟨by have:=hS.three;omega,fun j p q hj h0 h1=>by
 cases j with
 | zero=>exact absurd rfl hj
 | succ j=>exact hS.first j p q h0 h1⟩
theorem IsShp.of_rot {l:List (Rat×Rat)} {k:Nat} (h3:3<=l.length) (conv:∀ k a b c,l[(k+l.length-1)%l.length]? = some a->l[k]? = some b->c∈l->c≠a->c≠b->0<oR a b c) (hk:Fst l k):IsShp (rot l k):=by
 have kl:=hk.lt;refine⟨by rw [zhs];exact h3,fun j q0 q h0 hj=>?_,fun j a b c ha hb hc na nb=>?_⟩
 ·have hj1:j+1<l.length:=by
   have:=(Zl.mp hj).1
   rw [zhs] at this;exact this
  rw [zki kl (by omega),Wf,Z5 kl] at h0;rw [zki kl hj1] at hj;refine hk.low _ _ _ ?_ h0 hj;rcases Wg (j+1+k) l.length with z | z
  ·rw [Z5 z];omega
  ·rw [G5 z,Z5 (by omega)];omega
 ·have hjl:j<l.length:=by
   have:=(Zl.mp hb).1
   rw [zhs] at this;exact this
  rw [zhs,zki kl (Qi _ (by omega))] at ha;rw [zki kl hjl] at hb;rw [rot_mem] at hc;refine conv ((j+k)%l.length) a b c ?_ hb hc na nb;rw [<- ha];congr 1
  have e:((j+k)%l.length+l.length-1)%l.length=((j+k)%l.length+(l.length-1))%l.length:=by congr 1;omega
  rw [e,Vn,Nat.mod_mod,<- Vn,Vn ((j+l.length-1)%l.length),Nat.mod_mod,<- Vn];congr 1
  omega
noncomputable def low (l:List (Rat×Rat)):Nat->Nat->Nat
 | 0,f=>f
 | n+1,f=>open Classical in low l n (if ltR (l.getD (l.length-(n+1)) (0,0)) (l.getD f (0,0)) then l.length-(n+1) else f)
theorem zww {l:List (Rat×Rat)} (nd:l.Nodup):∀ (n f:Nat),n<=l.length->f<l.length->(∀ j,j<l.length-n->j≠f->ltR (l.getD f (0,0)) (l.getD j (0,0)))->Fst l (low l n f)
 | 0,f,_,hf,h=>⟨hf,fun j p q hj h0 h1=>by
  have jl:=(Zl.mp h1).1;have:=h j jl hj
  rw [Z0,Z0] at this;unfold low at h0;rw [h0,h1] at this;exact this⟩
 | n+1,f,hn,hf,h=>by
  unfold low;have ne:∀ i j,i<l.length->j<l.length->i≠j->l.getD i (0,0)≠l.getD j (0,0):=fun i j hi hj hij e=>by
   rw [Z0,Z0,Ze hi,Ze hj] at e;exact hij ((Qz nd).mp e)
  split
  ·rename_i c;refine zww nd n _ (by omega) (by omega) fun j hj hne=>?_;by_cases e:j=f
   ·rw [e];exact c
   ·exact zic c (h j (by omega) e)
  ·rename_i c;refine zww nd n f (by omega) hf fun j hj hne=>?_;by_cases e:j=l.length-(n+1)
   ·rw [<- e] at c;rcases zwq (l.getD f (0,0)) (l.getD j (0,0)) with t | t | t
    ·exact t
    ·exact absurd t (ne _ _ hf (by omega) (Wh hne))
    ·exact absurd t c
   ·exact h j (by omega) hne
open Sf
theorem cutTo {l:List D} {a:Nat} (h:a<=l.length):cutD l none (some (a:Int))=l.take a:=by
 unfold cutD;rw [HT.sIx_none,HT.sIx_nat,Ub,Gf,Jv h]
theorem zpt {l:List D} {a:Nat} (h:a<=l.length):cutD l (some (a:Int)) none=l.drop a:=by
 unfold cutD;rw [HT.sIx_none,HT.sIx_nat,Jv h,Jf (by rw [Ys];exact Zh _)]
section
variable {Γ:Nat->List D->Option W}
noncomputable abbrev zkd:List (Nat×(List D->Option W)):=[(9,zfi)]
noncomputable def zft:List D->Option W:=run (tab zkd) ziu 2
theorem ok_added (h9:Γ 9=zfi):∀ ds w,ds.length=2->zft ds=some w->run Γ ziu 2 ds=some w:=fun ds w _ h=>zcb zkd (by
 intro p hp;rcases Zt.mp hp with rfl;exact h9) (by decide) ds w h
theorem zzh {q p:Rat×Rat} (hq:Sz 64 q.1/\Sz 64 q.2) (hp:Sz 200 p.1/\Sz 200 p.2):zft [stD q,stD p]=some (.val (stD (pshR p q))):=by
 unfold zft;generalize hΓ:tab zkd=Γ;have h9:Γ 9=zfi:=by rw [<- hΓ];rfl
 have q1:zfi [fr q.1,fr p.1]=some (.val (fr (q.1+p.1))):=zfv (zda hq.1 hp.1 (by decide) (by decide));have q2:zfi [fr q.2,fr p.2]=some (.val (fr (q.2+p.2))):=zfv (zda hq.2 hp.2 (by decide) (by decide));show _=some (W.val (.tup [fr (q.1+p.1),fr (q.2+p.2)]));generalize fr (q.1+p.1)=X at *;generalize fr (q.2+p.2)=Y at *;clear hq hp hΓ;unfold ziu stD;walk_at "evh"
noncomputable abbrev ygf:List (Nat×(List D->Option W)):=[(13,zan)]
noncomputable def zgh:List D->Option W:=run (tab ygf) zca 2
theorem ok_law_added (h13:Γ 13=zan):∀ ds w,ds.length=2->zgh ds=some w->run Γ zca 2 ds=some w:=fun ds w _ h=>zcb ygf (by
 intro p hp;rcases Zt.mp hp with rfl;exact h13) (by decide) ds w h
theorem rat_of (x:Rat):Rat.divInt x.num (x.den:Int)=x:=by
 rw [Rat.divInt_ofNat];exact Rat.mkRat_self x
theorem add_r (x y:Rat):Rat.divInt (x.num*(y.den:Int)+y.num*(x.den:Int)) ((x.den:Int)*(y.den:Int))=x+y:=by
 have dx:(x.den:Int)≠0:=by have:=zam x;omega
 have dy:(y.den:Int)≠0:=by have:=zam y;omega
 have e:=Jq x.num y.num dx dy;rw [rat_of,rat_of] at e;exact e.symm
end
namespace Mg
open DL
noncomputable abbrev V:=Rat×Rat
noncomputable def xr (u v:V):Rat:=u.1*v.2-u.2*v.1
noncomputable def mn (a b:V):V:=(a.1-b.1,a.2-b.2)
noncomputable def pl (a b:V):V:=(a.1+b.1,a.2+b.2)
noncomputable def ng (u:V):V:=(-u.1,-u.2)
def up (u:V):Prop:=0<u.1\/(u.1=0/\0<u.2)
theorem zac (u v:V):xr u v = - xr v u:=by unfold xr;grind
theorem zlu (u v:V):xr (ng u) v = - xr u v:=by unfold xr ng;grind
theorem zqb (u v:V):xr u (ng v) = - xr u v:=by unfold xr ng;grind
theorem zzo (u v:V):xr (ng u) (ng v)=xr u v:=by unfold xr ng;grind
theorem xr_pl (u v w:V):xr u (pl v w)=xr u v+xr u w:=by unfold xr pl;grind
theorem yfr (u v w:V):xr (pl u v) w=xr u w+xr v w:=by unfold xr pl;grind
theorem nn_of_mul {a b:Rat} (hb:0<b) (h:0<=a*b):0<=a:=by
 by_cases k:0<=a
 ·exact k
 ·have:=Y7 (show 0 < -a by grind) hb
  grind
theorem up_1 {u:V} (h:up u):0<=u.1:=by rcases h with h | h <;> grind
theorem tr_le {u v w:V} (hu:up u) (hv:up v) (hw:up w) (h1:0<=xr u v) (h2:0<=xr v w):0<=xr u w:=by
 have u1:=up_1 hu;have w1:=up_1 hw;rcases hv with hv | ⟨v1,v2⟩
 ·refine nn_of_mul hv ?_;have e:xr u w*v.1=xr u v*w.1+xr v w*u.1:=by unfold xr;grind
  rw [e];have a:=Yz h1 w1;have b:=Yz h2 u1;grind
 ·have w0:w.1=0:=by
   have a:=Yz (Y0 v2) w1;have e:xr v w = - (v.2*w.1):=by unfold xr;rw [v1];grind
   by_cases k:w.1=0
   ·exact k
   ·have:=Y7 v2 (show 0<w.1 by grind)
    grind
  have w2:0<w.2:=by rcases hw with h | h <;> grind
  have e:xr u w=u.1*w.2:=by unfold xr;rw [w0];grind
  rw [e];exact Yz u1 (Y0 w2)
theorem tr_lt1 {u v w:V} (hu:up u) (hv:up v) (hw:up w) (h1:0<xr u v) (h2:0<=xr v w):0<xr u w:=by
 by_cases k:0<xr u w
 ·exact k
 ·have:=tr_le hv hw hu h2 (by rw [zac];grind)
  rw [zac] at this;grind
theorem tr_lt2 {u v w:V} (hu:up u) (hv:up v) (hw:up w) (h1:0<=xr u v) (h2:0<xr v w):0<xr u w:=by
 by_cases k:0<xr u w
 ·exact k
 ·have:=tr_le hw hu hv (by rw [zac];grind) h1
  rw [zac] at this;grind
def bf (u v:V):Prop:=(up u/\up (ng v))\/(up u/\up v/\0<xr u v)\/(up (ng u)/\up (ng v)/\0<xr u v)
def al (u v:V):Prop:=((up u/\up v)\/(up (ng u)/\up (ng v)))/\xr u v=0
theorem B2 {u:V} (h:up u) (k:up (ng u)):False:=by
 unfold up ng at *;rcases h with h | h <;> rcases k with k | k <;> grind
theorem ydb {u v w:V} (h:bf u v) (k:bf v w):bf u w:=by
 rcases h with⟨a,b⟩ | ⟨a,b,c⟩ | ⟨a,b,c⟩ <;> rcases k with⟨d,e⟩ | ⟨d,e,f⟩ | ⟨d,e,f⟩
 ·exact (B2 d b).elim
 ·exact (B2 d b).elim
 ·exact .inl ⟨a,e⟩
 ·exact .inl ⟨a,e⟩
 ·exact .inr (.inl ⟨a,e,tr_lt1 a b e c (Y0 f)⟩)
 ·exact .inl ⟨a,e⟩
 ·exact (B2 d b).elim
 ·exact (B2 d b).elim
 ·refine .inr (.inr ⟨a,e,?_⟩);rw [<- zzo] at c f |-;exact tr_lt1 a b e c (Y0 f)
theorem ykp {u v:V} (h:al u v):al v u:=⟨h.1.imp (fun k=>⟨k.2,k.1⟩) (fun k=>⟨k.2,k.1⟩),by rw [zac,h.2];grind⟩
theorem al_bf {u v w:V} (h:al u v) (k:bf v w):bf u w:=by
 refine xg h fun k1 k2=>?_;clear h
 rcases k with⟨a,b⟩ | ⟨a,b,c⟩ | ⟨a,b,c⟩ <;> rcases k1 with⟨d,e⟩ | ⟨d,e⟩
 ·exact .inl ⟨d,b⟩
 ·exact (B2 a e).elim
 ·exact .inr (.inl ⟨d,b,tr_lt2 d e b (by rw [k2];exact Kr) c⟩)
 ·exact (B2 a e).elim
 ·exact (B2 e a).elim
 ·refine .inr (.inr ⟨d,b,?_⟩);rw [<- zzo] at c k2 |-;exact tr_lt2 d e b (by rw [k2];exact Kr) c
structure Poly (P:Nat->V) (n:Nat):Prop where
 three:3<=n
 per:∀ i,P (i+n)=P i
 conv:∀ i k,0<=xr (mn (P (i+1)) (P i)) (mn (P k) (P i))
 turn:∀ i,0<xr (mn (P (i+1)) (P i)) (mn (P (i+2)) (P (i+1)))
 fst:up (mn (P 1) (P 0))
 lst:up (ng (mn (P n) (P (n-1))))
 half:∀ i,up (mn (P (i+1)) (P i))\/up (ng (mn (P (i+1)) (P i)))
 mono:∀ i,i+1<n->up (ng (mn (P (i+1)) (P i)))->up (ng (mn (P (i+2)) (P (i+1))))
 low:∀ k,0<k->k<n->up (mn (P k) (P 0))
noncomputable def ed (P:Nat->V) (i:Nat):V:=mn (P (i+1)) (P i)
variable {P Q:Nat->V} {n m:Nat}
theorem Poly.next (h:Poly P n) {i:Nat} (hi:i+1<n):bf (ed P i) (ed P (i+1)):=by
 have t:=h.turn i;rcases h.half i with a | a
 ·rcases h.half (i+1) with b | b
  ·exact .inr (.inl ⟨a,b,t⟩)
  ·exact .inl ⟨a,b⟩
 ·exact .inr (.inr ⟨a,h.mono i hi a,t⟩)
theorem Poly.edp (h:Poly P n) (i:Nat):ed P (i+n)=ed P i:=by
 unfold ed;rw [show i+n+1=i+1+n by omega,h.per,h.per]
theorem Poly.wrap (h:Poly P n):0<xr (ed P (n-1)) (ed P 0):=by
 have t:=h.turn (n-1);have:=h.three
 rw [show n-1+2=1+n by omega,show n-1+1=0+n by omega,h.per,h.per] at t;unfold ed;rw [show n-1+1=0+n by omega,h.per];exact t
theorem Poly.lst' (h:Poly P n):up (ng (ed P (n-1))):=by
 have:=h.three
 have t:=h.lst;unfold ed;rw [show n-1+1=n by omega];exact t
structure Inv (P Q:Nat->V) (n m i j:Nat):Prop where
 a:0<i->j<m->bf (ed P (i-1)) (ed Q j)
 b:0<j->i<n->bf (ed Q (j-1)) (ed P i)
theorem Inv.symm {i j:Nat} (h:Inv P Q n m i j):Inv Q P m n j i:=⟨h.b,h.a⟩
theorem apart (hQ:Poly Q m) {i j:Nat} (I:Inv P Q n m i j) (hi:i<n) (hj:j<m) (a:up (ed P i)) (b:up (ng (ed Q j))):0<xr (ed P i) (ed Q j):=by
 have hj0:0<j:=by
  rcases Wm j with e | e
  ·subst e;exact (B2 hQ.fst b).elim
  ·exact e
 have t:=hQ.turn (j-1);rw [show j-1+2=j+1 by omega,show j-1+1=j by omega] at t;rcases I.b hj0 hi with⟨c,d⟩ | ⟨c,d,e⟩ | ⟨c,d,e⟩
 ·exact (B2 a d).elim
 ·have:0<xr (ng (ed Q j)) (ed Q (j-1)):=by
   have e1:ed Q (j-1)=mn (Q j) (Q (j-1)):=by unfold ed;rw [show j-1+1=j by omega]
   rw [zlu,zac,e1];unfold ed;grind
  have:=tr_lt1 b c a this (Y0 e)
  rw [zlu,zac] at this;grind
 ·exact (B2 a d).elim
theorem order (hP:Poly P n) (hQ:Poly Q m) {i j:Nat} (I:Inv P Q n m i j) (hi:i<n) (hj:j<m) :
  (0<xr (ed P i) (ed Q j)->bf (ed P i) (ed Q j))/\(xr (ed P i) (ed Q j)<0->bf (ed Q j) (ed P i))/\(xr (ed P i) (ed Q j)=0->al (ed P i) (ed Q j)):=by
 rcases hP.half i with a | a <;> rcases hQ.half j with b | b
 ·exact⟨fun h=>.inr (.inl ⟨a,b,h⟩),fun h=>.inr (.inl ⟨b,a,by rw [zac];grind⟩),fun h=>⟨.inl ⟨a,b⟩,h⟩⟩
 ·have:=apart hQ I hi hj a b
  exact⟨fun h=>.inl ⟨a,b⟩,fun h=>by grind,fun h=>by grind⟩
 ·have:=apart hP I.symm hj hi b a
  rw [zac] at this;exact⟨fun h=>by grind,fun h=>.inl ⟨b,a⟩,fun h=>by grind⟩
 ·exact⟨fun h=>.inr (.inr ⟨a,b,h⟩),fun h=>.inr (.inr ⟨b,a,by rw [zac];grind⟩),fun h=>⟨.inr ⟨a,b⟩,h⟩⟩
end Mg
namespace Mg
open DL
variable {P Q:Nat->V} {n m:Nat}
theorem Poly.cone (h:Poly Q m) (j:Nat) {g:V} (A:0<=xr g (ed Q j)) (B:0<=xr (ed Q (j+m-1)) g) (k:Nat):0<=xr g (mn (Q k) (Q j)):=by
 have h3:=h.three;have t:=h.turn (j+m-1);have c1:=h.conv j k;have c2:=h.conv (j+m-1) k;have e0:j+m-1+1=j+m:=by omega
 have e1:j+m-1+2=j+1+m:=by omega
 rw [e0,e1,h.per,h.per] at t;rw [e0,h.per] at c2;have e2:ed Q (j+m-1)=mn (Q j) (Q (j+m-1)):=by unfold ed;rw [e0,h.per]
 rw [e2] at B;have e3:ed Q j=mn (Q (j+1)) (Q j):=rfl;rw [e3] at A;refine nn_of_mul t ?_;generalize Q (j+m-1)=z at *;have c3:xr (mn (Q j) z) (mn (Q k) z)=xr (mn (Q j) z) (mn (Q k) (Q j)):=by unfold xr mn;grind
 rw [c3] at c2;have e:xr g (mn (Q k) (Q j))*xr (mn (Q j) z) (mn (Q (j+1)) (Q j))=xr (mn (Q j) z) (mn (Q k) (Q j))*xr g (mn (Q (j+1)) (Q j))+xr (mn (Q (j+1)) (Q j)) (mn (Q k) (Q j))*xr (mn (Q j) z) g:=by unfold xr;grind
 rw [e];have a:=Yz c2 A;have b:=Yz c1 B;grind
theorem Poly.fst' (h:Poly Q m):up (ed Q 0):=h.fst
theorem Poly.pred (h:Poly Q m) {j:Nat} (hj:0<j):ed Q (j+m-1)=ed Q (j-1):=by
 rw [show j+m-1=j-1+m by omega,h.edp]
theorem Poly.turn' (h:Poly Q m) {j:Nat} (hj:0<j):0<xr (ed Q (j-1)) (ed Q j):=by
 have t:=h.turn (j-1);unfold ed;rw [show j-1+2=j+1 by omega,show j-1+1=j by omega] at t;rw [show j-1+1=j by omega];exact t
theorem sup (hP:Poly P n) (hQ:Poly Q m) {i j:Nat} (I:Inv P Q n m i j) (hi:i<n) (hj:j=m\/(j<m/\0<=xr (ed P i) (ed Q j))) :
  0<=xr (ed P i) (ed Q j)/\0<xr (ed Q (j+m-1)) (ed P i):=by
 have h3:=hQ.three;rcases hj with e | ⟨hj,A⟩
 ·subst e;have pb:=I.b (by omega) hi;have e0:ed Q j=ed Q 0:=by have:=hQ.edp 0;rwa [Wf] at this
  rw [hQ.pred (by omega),e0];have d:=hQ.lst';have w:=hQ.wrap;rcases pb with⟨a,b⟩ | ⟨a,b,c⟩ | ⟨a,b,c⟩
  ·exact (B2 a d).elim
  ·exact (B2 a d).elim
  ·refine⟨?_,c⟩
   have x1:0<xr (ed Q 0) (ng (ed Q (j-1))):=by rw [zqb,zac];grind
   have x2:0<xr (ng (ed Q (j-1))) (ng (ed P i)):=by rw [zzo];exact c
   have:=tr_lt1 hQ.fst' a b x1 (Y0 x2)
   rw [zqb,zac] at this;grind
 ·refine⟨A,?_⟩
  have O:=order hP hQ I hi hj;rcases Wm j with e | e
  ·subst e;have d:=hQ.lst';have w:=hQ.wrap;rw [Wf];have u:up (ed P i):=by
    by_cases k:0<xr (ed P i) (ed Q 0)
    ·rcases O.1 k with⟨a,_⟩ | ⟨a,_,_⟩ | ⟨_,b,_⟩
     ·exact a
     ·exact a
     ·exact (B2 hQ.fst' b).elim
    ·rcases (O.2.2 (by grind)).1 with⟨a,_⟩ | ⟨_,b⟩
     ·exact a
     ·exact (B2 hQ.fst' b).elim
   have x1:0<xr (ed Q 0) (ng (ed Q (m-1))):=by rw [zqb,zac];grind
   have:=tr_lt2 u hQ.fst' d A x1
   rw [zqb,zac] at this;grind
  ·rw [hQ.pred e];rcases I.b e hi with⟨a,b⟩ | ⟨a,b,c⟩ | ⟨a,b,c⟩
   ·have dn:up (ng (ed Q j)):=by
     by_cases k:0<xr (ed P i) (ed Q j)
     ·rcases O.1 k with⟨a',_⟩ | ⟨a',_,_⟩ | ⟨_,b',_⟩
      ·exact (B2 a' b).elim
      ·exact (B2 a' b).elim
      ·exact b'
     ·rcases (O.2.2 (by grind)).1 with⟨a',_⟩ | ⟨_,b'⟩
      ·exact (B2 a' b).elim
      ·exact b'
    have t:=hQ.turn' e;have x1:0<xr (ng (ed Q j)) (ed Q (j-1)):=by rw [zlu,zac];grind
    have x0:0<=xr (ng (ed P i)) (ng (ed Q j)):=by rw [zzo];exact A
    have:=tr_lt2 b dn a x0 x1
    rw [zlu,zac] at this;grind
   ·exact c
   ·exact c
def Stp (P Q:Nat->V) (n m:Nat) (s t:Nat×Nat):Prop:=
 (t=(s.1+1,s.2)/\s.1<n/\(s.2=m\/(s.2<m/\0<xr (ed P s.1) (ed Q s.2)))) \/
 (t=(s.1,s.2+1)/\s.2<m/\(s.1=n\/(s.1<n/\xr (ed P s.1) (ed Q s.2)<0))) \/
 (t=(s.1+1,s.2+1)/\s.1<n/\s.2<m/\xr (ed P s.1) (ed Q s.2)=0)
noncomputable def at2 (P Q:Nat->V) (s:Nat×Nat):V:=pl (P s.1) (Q s.2)
noncomputable def gw (P Q:Nat->V) (s t:Nat×Nat):V:=mn (at2 P Q t) (at2 P Q s)
theorem gw1 (i j:Nat):gw P Q (i,j) (i+1,j)=ed P i:=by
 unfold gw at2 ed mn pl;exact W5 (by dsimp only;grind) (by dsimp only;grind)
theorem gw2 (i j:Nat):gw P Q (i,j) (i,j+1)=ed Q j:=by
 unfold gw at2 ed mn pl;exact W5 (by dsimp only;grind) (by dsimp only;grind)
theorem gw3 (i j:Nat):gw P Q (i,j) (i+1,j+1)=pl (ed P i) (ed Q j):=by
 unfold gw at2 ed mn pl;exact W5 (by dsimp only;grind) (by dsimp only;grind)
structure StepOk (P Q:Nat->V) (n m:Nat) (s t:Nat×Nat):Prop where
 inv:Inv P Q n m t.1 t.2
 lowP:∀ k,0<=xr (gw P Q s t) (mn (P k) (P s.1))
 lowQ:∀ k,0<=xr (gw P Q s t) (mn (Q k) (Q s.2))
 fromP:0<xr (ed P (s.1+n-1)) (gw P Q s t)
 fromQ:0<xr (ed Q (s.2+m-1)) (gw P Q s t)
theorem Poly.turnp (h:Poly Q m) (j:Nat):0<xr (ed Q (j+m-1)) (ed Q j):=by
 have h3:=h.three;rcases Wm j with e | e
 ·subst e;rw [Wf];exact h.wrap
 ·rw [h.pred e];exact h.turn' e
theorem zrb (hP:Poly P n) (hQ:Poly Q m) {i j:Nat} (I:Inv P Q n m i j) (hi:i<n) (hjm:j<=m) (hj:j=m\/(j<m/\0<xr (ed P i) (ed Q j))):StepOk P Q n m (i,j) (i+1,j):=by
 have S:=sup hP hQ I hi (hj.imp_right fun h=>⟨h.1,Y0 h.2⟩);refine⟨⟨fun _ h=>?_,fun h k=>?_⟩,fun k=>?_,fun k=>?_,?_,?_⟩
 ·rw [Wu];rcases hj with e | ⟨h1,h2⟩
  ·exact absurd h (by dsimp only;omega)
  ·exact (order hP hQ I hi h1).1 h2
 ·exact ydb (I.b h hi) (hP.next k)
 ·rw [gw1];exact hP.conv i k
 ·rw [gw1];exact hQ.cone j S.1 (Y0 S.2) k
 ·rw [gw1];exact hP.turnp i
 ·rw [gw1];exact S.2
theorem zkx (i j i' j':Nat):gw Q P (j,i) (j',i')=gw P Q (i,j) (i',j'):=by
 unfold gw at2 mn pl;exact W5 (by dsimp only;grind) (by dsimp only;grind)
theorem StepOk.swap {i j i' j':Nat} (h:StepOk Q P m n (j,i) (j',i')):StepOk P Q n m (i,j) (i',j'):=
 ⟨h.inv.symm,fun k=>by have:=h.lowQ k;rwa [zkx] at this,fun k=>by have:=h.lowP k;rwa [zkx] at this,by have:=h.fromQ;rwa [zkx] at this,by have:=h.fromP;rwa [zkx] at this⟩
theorem zyl (hP:Poly P n) (hQ:Poly Q m) {i j:Nat} (I:Inv P Q n m i j) (hi:i<n) (hj:j<m) (h0:xr (ed P i) (ed Q j)=0):StepOk P Q n m (i,j) (i+1,j+1):=by
 have S:=sup hP hQ I hi (.inr ⟨hj,by rw [h0];exact Kr⟩);have h0':xr (ed Q j) (ed P i)=0:=by rw [zac,h0];grind
 have S':=sup hQ hP I.symm hj (.inr ⟨hi,by rw [h0'];exact Kr⟩);have AL:=(order hP hQ I hi hj).2.2 h0;refine⟨⟨fun _ h=>?_,fun _ k=>?_⟩,fun k=>?_,fun k=>?_,?_,?_⟩
 ·rw [Wu];exact al_bf AL (hQ.next h)
 ·rw [Wu];exact al_bf (ykp AL) (hP.next k)
 ·rw [gw3,yfr];have a:=hP.conv i k;have b:=hP.cone i S'.1 (Y0 S'.2) k;unfold ed at *;grind
 ·rw [gw3,yfr];have a:=hQ.conv j k;have b:=hQ.cone j S.1 (Y0 S.2) k;unfold ed at *;grind
 ·rw [gw3,xr_pl];have a:=hP.turnp i;have b:=S'.2;grind
 ·rw [gw3,xr_pl];have a:=hQ.turnp j;have b:=S.2;grind
theorem zke (hP:Poly P n) (hQ:Poly Q m) {s t:Nat×Nat} (I:Inv P Q n m s.1 s.2) (h1:s.1<=n) (h2:s.2<=m) (h:Stp P Q n m s t):StepOk P Q n m s t:=by
 obtain⟨i,j⟩:=s
 dsimp only at *;rcases h with⟨e,a,b⟩ | ⟨e,a,b⟩ | ⟨e,a,b,c⟩
 ·rw [e];exact zrb hP hQ I a h2 b
 ·rw [e];exact (zrb hQ hP I.symm a h1 (b.imp_right fun k=>⟨k.1,by rw [zac];have:=k.2;grind⟩)).swap
 ·rw [e];exact zyl hP hQ I a b c
end Mg
namespace Mg
open DL
variable {P Q:Nat->V} {n m:Nat}
theorem zbc {a b:Rat} (hb:0<b) (h:b*a=0):a=0:=by
 rcases zkj a 0 with k | k | k
 ·have:=Y7 hb (show 0 < -a by grind);grind
 ·exact k
 ·have:=Y7 hb k;grind
theorem ext0 {d:V} (h1:d.1=0) (h2:d.2=0):d=(0,0):=W5 h1 h2
theorem zwh {a b:V} (h:mn a b=(0,0)):a=b:=by
 have h1:=congrArg Prod.fst h;have h2:=congrArg Prod.snd h;unfold mn at h1 h2;exact W5 (by dsimp only at h1;grind) (by dsimp only at h2;grind)
theorem xr_id (u v w:V):xr u v*w.1=xr u w*v.1+xr w v*u.1/\xr u v*w.2=xr u w*v.2+xr w v*u.2:=by
 unfold xr;constructor <;> grind
theorem share {u g d:V} (hT:0<xr u g) (h0:xr g d=0) (ha:0<=xr u d) (hd:d≠(0,0)):0<xr u d/\∀ h:V,xr u g*xr h d=xr u d*xr h g:=by
 have h0':xr d g=0:=by rw [zac,h0];grind
 refine xg (xr_id u g d) fun e1 e2=>?_;rw [h0'] at e1 e2;refine⟨?_,fun h=>?_⟩
 ·by_cases k:0<xr u d
  ·exact k
  ·have z:xr u d=0:=by grind
   rw [z] at e1 e2;exact absurd (ext0 (zbc hT (by grind)) (zbc hT (by grind))) hd
 ·have:xr u g*xr h d=h.1*(xr u g*d.2)-h.2*(xr u g*d.1):=by unfold xr;grind
  rw [this,e1,e2];unfold xr;grind
theorem yag {a b c a' b' c' c'':V} (w1:0<=xr (mn a a') (mn c a')) (t1:0<xr (mn a a') (mn b a)) (w2:0<=xr (mn b' b) (mn c b)) (t2:0<xr (mn b a) (mn b' b))
  (wa:0<=xr (mn c'' c) (mn a c)) (wb:0<=xr (mn c'' c) (mn b c)) (va:0<=xr (mn c c') (mn a c')) (vb:0<=xr (mn c c') (mn b c')) (t3:0<xr (mn c c') (mn c'' c))
  (w:0<=xr (mn b a) (mn c a)) (ha:c≠a) (hb:c≠b):0<xr (mn b a) (mn c a):=by
 by_cases k:0<xr (mn b a) (mn c a)
 ·exact k
 exfalso
 have z:xr (mn b a) (mn c a)=0:=by grind
 have z2:xr (mn b a) (mn b c)=0:=by
  have:xr (mn b a) (mn b c) = - xr (mn b a) (mn c a):=by unfold xr mn;grind
  rw [this,z];grind
 have w1':0<=xr (mn a a') (mn c a):=by
  have:xr (mn a a') (mn c a')=xr (mn a a') (mn c a):=by unfold xr mn;grind
  rw [<- this];exact w1
 refine xg (share t1 z w1' fun e=>ha (zwh e)) fun p1 s1=>?_;have t2':0<xr (ng (mn b' b)) (mn b a):=by rw [zlu,zac];grind
 have w2':0<=xr (ng (mn b' b)) (mn b c):=by
  have:xr (ng (mn b' b)) (mn b c)=xr (mn b' b) (mn c b):=by unfold xr mn ng;grind
  rw [this];exact w2
 refine xg (share t2' z2 w2' fun e=>hb (zwh e).symm) fun p2 s2=>?_;have flat:∀ h:V,0<=xr h (mn a c)->0<=xr h (mn b c)->xr h (mn b a)=0:=fun h k1 k2=>by
  have q1:=s1 h;have q2:=s2 h;have e:xr h (mn a c) = - xr h (mn c a):=by unfold xr mn;grind
  rw [e] at k1;have g1:=Yz (Y0 t1) k1;have g2:=Yz (Y0 t2') k2;have r2:0<=xr h (mn b a):=nn_of_mul p2 (by grind);have r1:0 <= - xr h (mn b a):=nn_of_mul p1 (by grind);grind
 have f1:=flat _ wa wb;have va':0<=xr (mn c c') (mn a c):=by
  have:xr (mn c c') (mn a c')=xr (mn c c') (mn a c):=by unfold xr mn;grind
  rw [<- this];exact va
 have vb':0<=xr (mn c c') (mn b c):=by
  have:xr (mn c c') (mn b c')=xr (mn c c') (mn b c):=by unfold xr mn;grind
  rw [<- this];exact vb
 have f2:=flat _ va' vb';refine xg (xr_id (mn c c') (mn c'' c) (mn b a)) fun e1 e2=>?_;have f1':xr (mn b a) (mn c'' c)=0:=by rw [zac,f1];grind
 rw [f2,f1'] at e1 e2;have g0:mn b a=(0,0):=ext0 (zbc t3 (by grind)) (zbc t3 (by grind));rw [g0] at t1;unfold xr at t1;dsimp only at t1;grind
inductive Tr (P Q:Nat->V) (n m:Nat):Nat×Nat->List (Nat×Nat)->Prop
 | nil:Tr P Q n m (n,m) []
 | cons {s t l}:Inv P Q n m s.1 s.2->s.1<=n->s.2<=m->Stp P Q n m s t->Tr P Q n m t l->Tr P Q n m s (s::l)
theorem Tr.get {s:Nat×Nat} {l:List (Nat×Nat)} (h:Tr P Q n m s l):∀ {k:Nat} {x:Nat×Nat},l[k]? = some x->∃ y,Inv P Q n m x.1 x.2/\x.1<=n/\x.2<=m/\Stp P Q n m x y/\(l[k+1]? = some y\/(k+1=l.length/\y=(n,m))):=by
 induction h with
 | nil=>intro k x h;cases h
 | @cons s t l I a b S T ih=>
  intro k x h;cases k with
  | zero=>
   cases h;refine⟨t,I,a,b,S,?_⟩
   cases T with
   | nil=>exact .inr ⟨rfl,rfl⟩
   | cons _ _ _ _ _=>exact .inl rfl
  | succ k=>
   refine xv (ih (k:=k) h) fun y r1 r2 r3 r4 r5=>?_;exact⟨y,r1,r2,r3,r4,r5.imp id fun q=>⟨by rw [Zj,q.1],q.2⟩⟩
theorem Tr.head {s:Nat×Nat} {l:List (Nat×Nat)} (h:Tr P Q n m s l) (hs:s≠(n,m)):l[0]? = some s:=by
 cases h with
 | nil=>exact absurd rfl hs
 | cons _ _ _ _ _=>rfl
theorem Tr.len {s:Nat×Nat} {l:List (Nat×Nat)} (h:Tr P Q n m s l):n<=s.1+l.length:=by
 induction h with
 | nil=>exact Zh _
 | @cons s t l I a b S T ih=>
  rw [Zj];have:t.1<=s.1+1:=by rcases S with⟨e,_⟩ | ⟨e,_⟩ | ⟨e,_⟩ <;> rw [e] <;> dsimp only <;> omega
  omega
end Mg
namespace Mg
open DL
variable {P Q:Nat->V} {n m:Nat}
theorem StepOk.left {s t:Nat×Nat} (h:StepOk P Q n m s t) (z:Nat×Nat):0<=xr (gw P Q s t) (mn (at2 P Q z) (at2 P Q s)):=by
 have a:=h.lowP z.1;have b:=h.lowQ z.2;have e:xr (gw P Q s t) (mn (at2 P Q z) (at2 P Q s))=xr (gw P Q s t) (mn (P z.1) (P s.1))+xr (gw P Q s t) (mn (Q z.2) (Q s.2)):=by
  generalize gw P Q s t=g;unfold at2 xr mn pl;grind
 rw [e];grind
theorem zuj (hP:Poly P n) (hQ:Poly Q m) {s t:Nat×Nat} (h:Stp P Q n m s t) {v:V} (a:0<xr (ed P (t.1+n-1)) v) (b:0<xr (ed Q (t.2+m-1)) v):0<xr (gw P Q s t) v:=by
 obtain⟨i,j⟩:=s
 rcases h with⟨e,_⟩ | ⟨e,_⟩ | ⟨e,_⟩ <;> subst e <;> dsimp only at a b
 ·rw [hP.pred (by omega),Wu] at a;rw [gw1];exact a
 ·rw [hQ.pred (by omega),Wu] at b;rw [gw2];exact b
 ·rw [hP.pred (by omega),Wu] at a;rw [hQ.pred (by omega),Wu] at b;rw [gw3,yfr];grind
theorem Stp.uniq {s t t':Nat×Nat} (h:Stp P Q n m s t) (k:Stp P Q n m s t'):t=t':=by
 rcases h with⟨e,a,b⟩ | ⟨e,a,b⟩ | ⟨e,a,b,c⟩ <;> rcases k with⟨e',a',b'⟩ | ⟨e',a',b'⟩ | ⟨e',a',b',c'⟩
 ·rw [e,e']
 ·rcases b with b | b <;> rcases b' with b' | b' <;> first | omega | (exfalso;have:=b.2;have:=b'.2;grind)
 ·rcases b with b | b
  ·omega
  ·exfalso;have:=b.2;grind
 ·rcases b with b | b <;> rcases b' with b' | b' <;> first | omega | (exfalso;have:=b.2;have:=b'.2;grind)
 ·rw [e,e']
 ·rcases b with b | b
  ·omega
  ·exfalso;have:=b.2;grind
 ·rcases b' with b' | b'
  ·omega
  ·exfalso;have:=b'.2;grind
 ·rcases b' with b' | b'
  ·omega
  ·exfalso;have:=b'.2;grind
 ·rw [e,e']
structure Cor (P Q:Nat->V) (n m:Nat) (T:List (Nat×Nat)) (k:Nat) (x y p q:Nat×Nat):Prop where
 out:StepOk P Q n m x y
 st:Stp P Q n m x y
 pre:T[(k+T.length-1)%T.length]? = some p
 inn:StepOk P Q n m p q
 ist:Stp P Q n m p q
 same:at2 P Q q=at2 P Q x
 turn:0<xr (gw P Q p q) (gw P Q x y)
theorem ycj (hP:Poly P n) (hQ:Poly Q m):at2 P Q (n,m)=at2 P Q (0,0):=by
 have a:=hP.per 0;have b:=hQ.per 0;rw [Wf] at a b;unfold at2;rw [a,b]
theorem Tr.cor (hP:Poly P n) (hQ:Poly Q m) {T:List (Nat×Nat)} (h:Tr P Q n m (0,0) T) {k:Nat} {x:Nat×Nat} (hk:T[k]? = some x):∃ y p q,Cor P Q n m T k x y p q:=by
 have n3:=hP.three;refine xv (h.get hk) fun y I a b S _=>?_;have O:=zke hP hQ I a b S;have hl:k<T.length:=by
  rcases Wg k T.length with h | h
  ·exact h
  ·rw [Wr h] at hk;cases hk
 rcases Wm k with e | e
 ·subst e;have h0:=h.head (by intro e;have:=congrArg Prod.fst e;dsimp only at this;omega);rw [h0] at hk;cases hk;have e1:(0+T.length-1)%T.length=T.length-1:=by rw [Wf];exact Z5 (by omega)
  have hp:T[T.length-1]? = some (T[T.length-1]):=Ze (by omega);refine xv (h.get hp) fun q I' a' b' S' r=>?_;have hq:q=(n,m):=by
   rcases r with r | r
   ·rw [Wr (by omega)] at r;cases r
   ·exact r.2
  subst hq;refine⟨y,_,(n,m),O,S,by rw [e1];exact hp,zke hP hQ I' a' b' S',S',ycj hP hQ,zuj hP hQ S' ?_ ?_⟩
  ·have:=O.fromP
   dsimp only at this |-;rw [Wf] at this;rw [show n+n-1=n-1+n by omega,hP.edp];exact this
  ·have:=O.fromQ
   have m3:=hQ.three;dsimp only at this |-;rw [Wf] at this;rw [show m+m-1=m-1+m by omega,hQ.edp];exact this
 ·have e1:(k+T.length-1)%T.length=k-1:=by
   rw [show k+T.length-1=k-1+T.length by omega,Qp];exact Z5 (by omega)
  have hp:T[k-1]? = some (T[k-1]):=Ze (by omega);refine xv (h.get hp) fun q I' a' b' S' r=>?_;have hq:q=x:=by
   rw [show k-1+1=k by omega] at r;rcases r with r | r
   ·rw [hk] at r;cases r;rfl
   ·omega
  subst hq;exact⟨y,_,q,O,S,by rw [e1];exact hp,zke hP hQ I' a' b' S',S',rfl,zuj hP hQ S' O.fromP O.fromQ⟩
theorem Tr.sum {s:Nat×Nat} {l:List (Nat×Nat)} (h:Tr P Q n m s l):∀ {k:Nat} {x:Nat×Nat},l[k]? = some x->s.1+s.2+k<=x.1+x.2:=by
 induction h with
 | nil=>intro k x h;cases h
 | @cons s t l I a b S T ih=>
  intro k x h;cases k with
  | zero=>cases h;exact Zh _
  | succ k=>
   have r:=ih (k:=k) h;have:s.1+s.2+1<=t.1+t.2:=by rcases S with⟨e,_⟩ | ⟨e,_⟩ | ⟨e,_⟩ <;> rw [e] <;> dsimp only <;> omega
   omega
theorem up_pl {u v:V} (h:up u) (k:up v):up (pl u v):=by
 unfold up pl at *;dsimp only;rcases h with h | h <;> rcases k with k | k
 ·exact .inl (by grind)
 ·exact .inl (by grind)
 ·exact .inl (by grind)
 ·exact .inr ⟨by grind,by grind⟩
theorem ltR_up {a b:V}:ltR a b↔up (mn b a):=by
 unfold ltR up mn;dsimp only;constructor
 ·rintro (h | ⟨h,k⟩)
  ·exact .inl (by grind)
  ·exact .inr ⟨by grind,by grind⟩
 ·rintro (h | ⟨h,k⟩)
  ·exact .inl (by grind)
  ·exact .inr ⟨by grind,by grind⟩
theorem pl_0 (u:V):pl u (0,0)=u:=by unfold pl;exact W5 (by dsimp only;grind) (by dsimp only;grind)
theorem pl_0' (u:V):pl (0,0) u=u:=by unfold pl;exact W5 (by dsimp only;grind) (by dsimp only;grind)
theorem zpd (u:V):mn u u=(0,0):=by unfold mn;exact W5 (by dsimp only;grind) (by dsimp only;grind)
theorem Tr.shape (hP:Poly P n) (hQ:Poly Q m) {T:List (Nat×Nat)} (h:Tr P Q n m (0,0) T):IsShp (T.map (at2 P Q)):=by
 have n3:=hP.three;have m3:=hQ.three;have hl:=h.len;dsimp only at hl;refine⟨by rw [Zd];omega,fun k q0 q h0 hk=>?_,fun k a b c ha hb hc ca cb=>?_⟩
 ·rw [Zk] at h0 hk;rw [h.head (by intro e;have:=congrArg Prod.fst e;dsimp only at this;omega)] at h0;cases h0;cases hx:T[k+1]? with
  | none=>rw [hx] at hk;cases hk
  | some x=>
   rw [hx] at hk;cases hk;refine xv (h.get hx) fun y I a b S _=>?_;have sm:=h.sum hx;dsimp only at sm;rw [ltR_up];have e:mn (at2 P Q x) (at2 P Q (0,0))=pl (mn (P x.1) (P 0)) (mn (Q x.2) (Q 0)):=by
    unfold at2 mn pl;exact W5 (by dsimp only;grind) (by dsimp only;grind)
   rw [e];have pp:∀ {R:Nat->V} {r i:Nat},Poly R r->i<=r->(i=0\/i=r)/\mn (R i) (R 0)=(0,0)\/up (mn (R i) (R 0)):=fun {R r i} hR hi=>by
    rcases Wm i with e | e
    ·subst e;exact .inl ⟨.inl rfl,zpd _⟩
    ·rcases Wg i r with k | k
     ·exact .inr (hR.low i e k)
     ·have:i=r:=by omega
      subst this;have q:=hR.per 0;rw [Wf] at q;exact .inl ⟨.inr rfl,by rw [q];exact zpd _⟩
   rcases pp hP a with⟨u1,u2⟩ | u <;> rcases pp hQ b with⟨v1,v2⟩ | v
   ·exfalso
    obtain⟨i,j⟩:=x
    dsimp only at *;rcases u1 with u1 | u1 <;> rcases v1 with v1 | v1
    ·omega
    ·subst u1 v1;have:=I.b (by omega) (by omega)
     rcases this with⟨c,d⟩ | ⟨c,d,_⟩ | ⟨c,d,_⟩
     ·exact B2 hP.fst d
     ·exact B2 c hQ.lst'
     ·exact B2 hP.fst d
    ·subst u1 v1;have:=I.a (by omega) (by omega)
     rcases this with⟨c,d⟩ | ⟨c,d,_⟩ | ⟨c,d,_⟩
     ·exact B2 hQ.fst d
     ·exact B2 c hP.lst'
     ·exact B2 hQ.fst d
    ·subst u1 v1;rcases S with⟨_,c,_⟩ | ⟨_,c,_⟩ | ⟨_,c,_⟩ <;> dsimp only at c <;> omega
   ·rw [u2,pl_0'];exact v
   ·rw [v2,pl_0];exact u
   ·exact up_pl u v
 ·rw [Zd] at ha;rw [Zk] at ha hb;cases hx:T[k]? with
  | none=>rw [hx] at hb;cases hb
  | some x=>
   rw [hx] at hb;cases hb;refine xq (h.cor hP hQ hx) fun y p q C=>?_;rw [C.pre] at ha;cases ha;refine xq (h.cor hP hQ C.pre) fun y1 p1 q1 C1=>?_;refine xa (Zz.mp hc) fun z hz ez=>?_;refine xb (Yg hz) fun i hi=>?_;refine xq (h.cor hP hQ hi) fun y2 p2 q2 C2=>?_;subst ez;have E0:mn (at2 P Q x) (at2 P Q p)=gw P Q p q:=by rw [<- C.same];rfl
   have E1:mn (at2 P Q p) (at2 P Q p1)=gw P Q p1 q1:=by rw [<- C1.same];rfl
   have E2:mn (at2 P Q z) (at2 P Q p2)=gw P Q p2 q2:=by rw [<- C2.same];rfl
   have oq:oR (at2 P Q p) (at2 P Q x) (at2 P Q z)=xr (mn (at2 P Q x) (at2 P Q p)) (mn (at2 P Q z) (at2 P Q p)):=by unfold oR xr mn;rfl
   rw [oq];have t1:=C1.turn;have yq:gw P Q p y1=gw P Q p q:=by rw [C1.st.uniq C.ist]
   refine yag (a':=at2 P Q p1) (b':=at2 P Q y) (c':=at2 P Q p2) (c'':=at2 P Q y2) ?_ ?_ ?_ ?_ ?_ ?_ ?_ ?_ ?_ ?_ ca cb
   ·rw [E1];exact C1.inn.left z
   ·rw [E1,E0,<- yq];exact t1
   ·exact C.out.left z
   ·rw [E0];exact C.turn
   ·exact C2.out.left p
   ·exact C2.out.left x
   ·rw [E2];exact C2.inn.left p
   ·rw [E2];exact C2.inn.left x
   ·rw [E2];exact C2.turn
   ·rw [E0];exact C.inn.left z
end Mg
namespace Mg
open DL
variable {P Q:Nat->V} {n m:Nat}
noncomputable def bend (P Q:Nat->V) (n m i j:Nat):Rat:=if j<m then (if i<n then xr (ed P i) (ed Q j) else -1) else 1
noncomputable def nxt (P Q:Nat->V) (n m:Nat) (s:Nat×Nat):Nat×Nat:=(if 0<=bend P Q n m s.1 s.2 then s.1+1 else s.1,if bend P Q n m s.1 s.2<=0 then s.2+1 else s.2)
noncomputable def walk (P Q:Nat->V) (n m:Nat):Nat->Nat×Nat->List (Nat×Nat)
 | 0,_=>[]
 | k+1,s=>if s.1<n\/s.2<m then s::walk P Q n m k (nxt P Q n m s) else []
theorem zvz {s:Nat×Nat} (h1:s.1<=n) (h2:s.2<=m) (h:s.1<n\/s.2<m):Stp P Q n m s (nxt P Q n m s):=by
 obtain⟨i,j⟩:=s
 unfold nxt Stp bend;dsimp only at *;by_cases hj:j<m
 ·rw [if_pos hj];by_cases hi:i<n
  ·rw [if_pos hi];rcases zkj (xr (ed P i) (ed Q j)) 0 with k | k | k
   ·rw [if_neg (by grind),if_pos (by grind)];exact .inr (.inl ⟨rfl,hj,.inr ⟨hi,k⟩⟩)
   ·rw [if_pos (by grind),if_pos (by grind)];exact .inr (.inr ⟨rfl,hi,hj,k⟩)
   ·rw [if_pos (by grind),if_neg (by grind)];exact .inl ⟨rfl,hi,.inr ⟨hj,k⟩⟩
  ·rw [if_neg hi,if_neg (by decide),if_pos (by decide)];exact .inr (.inl ⟨rfl,hj,.inl (by omega)⟩)
 ·rw [if_neg hj,if_pos (by decide),if_neg (by decide)];exact .inl ⟨rfl,by omega,.inl (by omega)⟩
theorem zud (hP:Poly P n) (hQ:Poly Q m):∀ (k:Nat) {s:Nat×Nat},Inv P Q n m s.1 s.2->s.1<=n->s.2<=m->n+m<=k+s.1+s.2->Tr P Q n m s (walk P Q n m k s)
 | 0,s,I,h1,h2,h=>by
  have:s=(n,m):=W5 (by dsimp only;omega) (by dsimp only;omega)
  subst this;exact .nil
 | k+1,s,I,h1,h2,h=>by
  unfold walk;by_cases c:s.1<n\/s.2<m
  ·rw [if_pos c];have S:=zvz (P:=P) (Q:=Q) h1 h2 c;have O:=zke hP hQ I h1 h2 S;have b:(nxt P Q n m s).1<=n/\(nxt P Q n m s).2<=m/\s.1+s.2+1<=(nxt P Q n m s).1+(nxt P Q n m s).2:=by
    rcases S with⟨e,a,_⟩ | ⟨e,a,_⟩ | ⟨e,a,a',_⟩ <;> rw [e] <;> dsimp only <;> omega
   exact .cons I h1 h2 S (zud hP hQ k O.inv b.1 b.2.1 (by omega))
  ·rw [if_neg c];have:s=(n,m):=W5 (by dsimp only;omega) (by dsimp only;omega)
   subst this;exact .nil
theorem zue (hP:Poly P n) (hQ:Poly Q m) {k:Nat} (h:n+m<=k):Tr P Q n m (0,0) (walk P Q n m k (0,0)):=
 zud hP hQ k ⟨fun h=>by omega,fun h=>by omega⟩ (Ya _) (Ya _) (by dsimp only;omega)
noncomputable def rnd (l:List V) (i:Nat):V:=l.getD (i%l.length) (0,0)
theorem zbl {l:List V} (h:0<l.length) (i:Nat):l[i%l.length]? = some (rnd l i):=by
 unfold rnd;have:=Qi i h
 rw [Z0,Ze this];rfl
theorem zdw {l:List V} (h:0<l.length) (i:Nat):rnd l i∈l:=Zn (zbl h i)
theorem zow {l:List V} (nd:l.Nodup) (h:0<l.length) {i j:Nat} (e:rnd l i=rnd l j):i%l.length=j%l.length:=by
 have a:=zbl h i;have b:=zbl h j;have hi:=Qi i h;rw [<- e,<- a] at b;exact ((List.getElem?_inj hi nd).mp b.symm)
theorem yfq (u:V):xr u u=0:=by unfold xr;grind
theorem xr_0 (u:V):xr u (0,0)=0:=by unfold xr;grind
theorem yie {e f d:V} (he:up e) (hf:up (ng f)) (hD:0<xr f e) (a:0<=xr f d) (b:0<=xr e d) (hd:up (ng d)):False:=by
 have i1:xr f e*d.1=xr f d*e.1+xr e d*(ng f).1:=by unfold xr ng;grind
 have i2:xr f e*d.2=xr f d*e.2+xr e d*(ng f).2:=by unfold xr ng;grind
 generalize ng f=g at *;generalize xr f e=D at *;generalize xr f d=x at *;generalize xr e d=y at *;have e1:=up_1 he;have g1:=up_1 hf;have m1:=Yz a e1;have m2:=Yz b g1;have d1:0<=d.1:=nn_of_mul hD (by grind);unfold up ng at hd;dsimp only at hd;rcases hd with hd | ⟨hd,hd2⟩
 ·grind
 ·have z:d.1=0:=by grind
  rw [z] at i1;have z1:x*e.1=0:=by grind
  have z2:y*g.1=0:=by grind
  have p1:0<=x*e.2:=by
   rcases he with k | ⟨_,k⟩
   ·have:x=0:=zbc k (by grind)
    rw [this];grind
   ·exact Yz a (Y0 k)
  have p2:0<=y*g.2:=by
   rcases hf with k | ⟨_,k⟩
   ·have:y=0:=zbc k (by grind)
    rw [this];grind
   ·exact Yz b (Y0 k)
  have:0<=d.2:=nn_of_mul hD (by grind)
  grind
theorem zfd {l:List V} (h:IsShp l) (nd:l.Nodup):Poly (rnd l) l.length:=by
 have h3:=h.three;have l0:0<l.length:=by omega
 have per:∀ i,rnd l (i+l.length)=rnd l i:=fun i=>by unfold rnd;rw [Qp]
 have cv:∀ i k,rnd l k≠rnd l i->rnd l k≠rnd l (i+1)->0<oR (rnd l i) (rnd l (i+1)) (rnd l k):=fun i k h1 h2=>by
  refine h.conv ((i+1)%l.length) _ _ _ ?_ (zbl l0 (i+1)) (zdw l0 k) h1 h2;have:((i+1)%l.length+l.length-1)%l.length=i%l.length:=by
   have a:=Qi (i+1) l0;have e:(i+1)%l.length+l.length-1=(i+1)%l.length+(l.length-1):=by omega
   rw [e,Ju,show i+1+(l.length-1)=i+l.length by omega,Qp]
  rw [this];exact zbl l0 i
 have oX:∀ a b c:V,oR a b c=xr (mn b a) (mn c a):=fun a b c=>by unfold oR xr mn;rfl
 have conv:∀ i k,0<=xr (mn (rnd l (i+1)) (rnd l i)) (mn (rnd l k) (rnd l i)):=fun i k=>by
  by_cases h1:rnd l k=rnd l i
  ·rw [h1,zpd,xr_0];exact Kr
  ·by_cases h2:rnd l k=rnd l (i+1)
   ·rw [h2,yfq];exact Kr
   ·have:=cv i k h1 h2
    rw [oX] at this;exact Y0 this
 have ne1:∀ i,rnd l (i+1)≠rnd l i:=fun i e=>by
  have:=zow nd l0 e
  have a:=Qi i l0;rw [<- Ju] at this;rcases Wg (i%l.length+1) l.length with k | k
  ·rw [Z5 k] at this;omega
  ·rw [show i%l.length+1=l.length by omega,K0] at this;omega
 have ne2:∀ i,rnd l (i+2)≠rnd l i:=fun i e=>by
  have:=zow nd l0 e
  have a:=Qi i l0;rw [<- Ju] at this;rcases Wg (i%l.length+2) l.length with k | k
  ·rw [Z5 k] at this;omega
  ·rw [show i%l.length+2=i%l.length+2-l.length+l.length by omega,Qp,Z5 (by omega)] at this;omega
 have turn:∀ i,0<xr (mn (rnd l (i+1)) (rnd l i)) (mn (rnd l (i+2)) (rnd l (i+1))):=fun i=>by
  have:=cv i (i+2) (ne2 i) (ne1 (i+1))
  rw [oX] at this;have e:xr (mn (rnd l (i+1)) (rnd l i)) (mn (rnd l (i+2)) (rnd l (i+1)))=xr (mn (rnd l (i+1)) (rnd l i)) (mn (rnd l (i+2)) (rnd l i)):=by
   generalize rnd l (i+1)=b;generalize rnd l (i+2)=c;unfold xr mn;grind
  rw [e];exact this
 have low:∀ k,0<k->k<l.length->up (mn (rnd l k) (rnd l 0)):=fun k k0 k1=>by
  have a:=zbl l0 0;have b:=zbl l0 k;rw [Nat.zero_mod] at a;rw [Z5 k1] at b;rw [show k=k-1+1 by omega] at b;rw [<- ltR_up];have:=h.first (k-1) _ _ a b
  rw [show k-1+1=k by omega] at this;exact this
 have half:∀ i,up (mn (rnd l (i+1)) (rnd l i))\/up (ng (mn (rnd l (i+1)) (rnd l i))):=fun i=>by
  rcases zwq (rnd l i) (rnd l (i+1)) with k | k | k
  ·exact .inl (ltR_up.mp k)
  ·exact absurd k.symm (ne1 i)
  ·refine .inr ?_;have:=ltR_up.mp k
   have e:ng (mn (rnd l (i+1)) (rnd l i))=mn (rnd l i) (rnd l (i+1)):=by
    unfold ng mn;exact W5 (by dsimp only;grind) (by dsimp only;grind)
   rw [e];exact this
 refine⟨h3,per,conv,turn,low 1 (by omega) (by omega),?_,half,?_,low⟩
 ·have e:=per 0;rw [Wf] at e;rw [e];have:=low (l.length-1) (by omega) (by omega)
  have e:ng (mn (rnd l 0) (rnd l (l.length-1)))=mn (rnd l (l.length-1)) (rnd l 0):=by
   unfold ng mn;exact W5 (by dsimp only;grind) (by dsimp only;grind)
  rw [e];exact this
 ·intro i hi a;rcases half (i+1) with u | u
  ·exfalso
   have lo:=low (i+1) (by omega) hi;have c1:=conv (i+1) 0;have c2:=conv i 0;refine yie (d:=mn (rnd l 0) (rnd l (i+1))) u a (turn i) ?_ c1 ?_
   ·have e:xr (mn (rnd l (i+1)) (rnd l i)) (mn (rnd l 0) (rnd l (i+1)))=xr (mn (rnd l (i+1)) (rnd l i)) (mn (rnd l 0) (rnd l i)):=by
     generalize rnd l (i+1)=b;generalize rnd l 0=c;unfold xr mn;grind
    rw [e];exact c2
   ·have e:ng (mn (rnd l 0) (rnd l (i+1)))=mn (rnd l (i+1)) (rnd l 0):=by
     unfold ng mn;exact W5 (by dsimp only;grind) (by dsimp only;grind)
    rw [e];exact lo
  ·exact u
noncomputable def sumW (l r:List V):List (Nat×Nat):=walk (rnd l) (rnd r) l.length r.length (l.length+r.length) (0,0)
noncomputable def sumL (l r:List V):List V:=(sumW l r).map (at2 (rnd l) (rnd r))
theorem zme {l r:List V} (hl:IsShp l) (nl:l.Nodup) (hr:IsShp r) (nr:r.Nodup):IsShp (sumL l r):=
 (zue (zfd hl nl) (zfd hr nr) (Zh _)).shape (zfd hl nl) (zfd hr nr)
end Mg
namespace Mg
open DL
theorem zux {l r:List V} (hl:0<l.length) (hr:0<r.length) {c:V} (h:c∈sumL l r):∃ u,u∈l/\∃ v,v∈r/\c=pl u v:=by
 refine xa (Zz.mp h) fun s _ e=>?_;exact⟨_,zdw hl s.1,_,zdw hr s.2,e.symm⟩
theorem zwp {l:List V} {c:V} (h:c∈l):∃ k,rnd l k=c:=by
 refine xb (Yg h) fun k hk=>?_;have hl:k<l.length:=by
  rcases Wg k l.length with h | h
  ·exact h
  ·rw [Wr h] at hk;cases hk
 refine⟨k,?_⟩
 have:=zbl (by omega:0<l.length) k
 rw [Z5 hl,hk] at this;exact (Yh this).symm
theorem ygi {l r:List V} (hl:IsShp l) (nl:l.Nodup) (hr:IsShp r) (nr:r.Nodup) {k:Nat} {a b:V} (ha:(sumL l r)[(k+(sumL l r).length-1)%(sumL l r).length]? = some a) (hb:(sumL l r)[k]? = some b) :
  ∃ u,u∈l/\∃ v,v∈r/\a=pl u v/\(∀ c∈l,0<=xr (mn b a) (mn c u))/\(∀ c∈r,0<=xr (mn b a) (mn c v)):=by
 have hP:=zfd hl nl;have hQ:=zfd hr nr;have l3:=hl.three;have r3:=hr.three;have T:=zue hP hQ (Zh _);unfold sumL at ha hb;rw [Zd,Zk] at ha;rw [Zk] at hb;cases hx:(sumW l r)[k]? with
 | none=>rw [hx] at hb;cases hb
 | some x=>
  rw [hx] at hb;cases hb;refine xq (T.cor hP hQ hx) fun y p q C=>?_;have pr:(sumW l r)[(k+(sumW l r).length-1)%(sumW l r).length]? = some p:=C.pre;rw [pr] at ha;cases ha;have E0:mn (at2 (rnd l) (rnd r) x) (at2 (rnd l) (rnd r) p)=gw (rnd l) (rnd r) p q:=by rw [<- C.same];rfl
  refine⟨_,zdw (by omega) p.1,_,zdw (by omega) p.2,rfl,fun c hc=>?_,fun c hc=>?_⟩
  ·refine xb (zwp hc) fun i e=>?_;rw [E0,<- e];exact C.inn.lowP i
  ·refine xb (zwp hc) fun i e=>?_;rw [E0,<- e];exact C.inn.lowQ i
theorem zqe {P Q:Nat->V} {n m:Nat}:∀ (k:Nat) (s:Nat×Nat),(walk P Q n m k s).length<=k
 | 0,_=>Zh _
 | k+1,s=>by
  unfold walk;by_cases c:s.1<n\/s.2<m
  ·rw [if_pos c,Zj];have:=zqe (P:=P) (Q:=Q) (n:=n) (m:=m) k (nxt P Q n m s);omega
  ·rw [if_neg c];exact Ya _
theorem zot (l r:List V):(sumL l r).length<=l.length+r.length:=by unfold sumL;rw [Zd];exact zqe _ _
end Mg
open Sf
section
variable {Γ:Nat->List D->Option W}
noncomputable def crI (s t:H3):Int:=s.1*t.2.1-s.2.1*t.1
noncomputable def zib:List D->Option W:=run (tab []) zit 2
theorem ok_cross:∀ ds w,ds.length=2->zib ds=some w->run Γ zit 2 ds=some w:=fun ds w _ h=>zcb [] (fun p hp=>by cases hp) (by decide) ds w h
theorem zyb {s t:H3} (hs:HB 1200 s) (ht:HB 1200 t):zib [hD s,hD t]=some (.val (.int (crI s t))):=by
 have m1:B0 s.1 t.2.1=true:=Bv hs.a ht.b (by decide) (by decide);have m2:B0 s.2.1 t.1=true:=Bv hs.b ht.a (by decide) (by decide);unfold zib;generalize tab []=Γ;unfold crI hD zit;clear hs ht;walk_at "evh"
noncomputable def zjd:List H3->List H3->Int
 | _,[]=>1
 | [],_::_=>-1
 | s::_,t::_=>crI s t
noncomputable abbrev zos:List (Nat×(List D->Option W)):=[(81,zib)]
noncomputable def znm:List D->Option W:=run (tab zos) zad 2
theorem ok_next_bend (h81:Γ 81=zib):∀ ds w,ds.length=2->znm ds=some w->run Γ zad 2 ds=some w:=fun ds w _ h=>zcb zos (by
 intro p hp;rcases Zt.mp hp with rfl;exact h81) (by decide) ds w h
theorem yfh:∀ l:List H3,dOkL 49 (l.map hD)=true
 | []=>rfl
 | p::l=>by
  rw [Zv];unfold dOkL;rw [yfh l];rfl
theorem zfu:∀ l:List H3,lfL (l.map hD)=true
 | []=>rfl
 | p::l=>by rw [Zv];unfold lfL;rw [zfu l];rfl
theorem zij (l:List H3):cmpD .eq (.lst (l.map hD)) (.lst [])=some (decide (l=[])):=by
 have d:=yfh l;show (if (dOkL 49 (l.map hD) && dOkL 49 [])=true then some (eqL (l.map hD) []) else none)=_;rw [d,if_pos (show (true && dOkL 49 [])=true from rfl)];cases l with
 | nil=>rfl
 | cons x l=>rfl
theorem ydc {φ:List D->Option W} (h81:Γ 81=φ) {x y:D} {A B:List D} {c:Int} (a0:L2.atI A 0=some x) (b0:L2.atI B 0=some y) (a:cmpD .eq (.lst A) (.lst [])=some false) (b:cmpD .eq (.lst B) (.lst [])=some false) (la:lfL A=true) (lb:lfL B=true) (h:φ [x,y]=some (.val (.int c))) :
  run Γ zad 2 [.lst A,.lst B]=some (.val (.int c)):=by
 unfold zad;walk_at "evh"
theorem zyw {A B:List D} (b:cmpD .eq (.lst B) (.lst [])=some true) (lb:lfL B=true):run Γ zad 2 [.lst A,.lst B]=some (.val (.int 1)):=by
 unfold zad;walk_at "evh"
theorem zyv {A B:List D} (a:cmpD .eq (.lst A) (.lst [])=some true) (b:cmpD .eq (.lst B) (.lst [])=some false) (la:lfL A=true) (lb:lfL B=true):run Γ zad 2 [.lst A,.lst B]=some (.val (.int (-1))):=by
 unfold zad;walk_at "evh"
theorem zsk {l:List D} {k:Nat} {x:D} (h:l[k]? = some x):L2.atI l (k:Int)=some x:=by
 have hk:k<l.length:=by
  rcases Wg k l.length with q | q
  ·exact q
  ·rw [Wr q] at h;cases h
 rw [zdg (K3 k) (by omega),Qq,h]
theorem at_hd (x:H3) (l:List H3):L2.atI ((x::l).map hD) 0=some (hD x):=zsk (k:=0) rfl
theorem ydd {A B:List H3} (hA:∀ s∈A,HB 1200 s) (hB:∀ s∈B,HB 1200 s):znm [.lst (A.map hD),.lst (B.map hD)]=some (.val (.int (zjd A B))):=by
 unfold znm;generalize hΓ:tab zos=Γ;have h81:Γ 81=zib:=by rw [<- hΓ];rfl
 cases B with
 | nil=>
  have:=zyw (Γ:=Γ) (A:=A.map hD) (zij []) (zfu [])
  cases A <;> exact this
 | cons t B=>
  cases A with
  | nil=>exact zyv (zij []) (zij (t::B)) (zfu []) (zfu (t::B))
  | cons s A=>exact ydc h81 (x:=hD s) (y:=hD t) (at_hd _ _) (at_hd _ _) (zij (s::A)) (zij (t::B)) (zfu (s::A)) (zfu (t::B)) (zyb (hA s (.head _)) (hB t (.head _)))
noncomputable abbrev zih:E:=(.or (.cmp .lt (.var 5) (.bi .len (.cons (.var 0) .nil))) (.cmp .lt (.var 6) (.bi .len (.cons (.var 1) .nil))))
noncomputable abbrev zfn:Ss:=(.cons (.app 4 (.call 67 (.cons (.ix (.var 0) (.bin .mod (.var 5) (.bi .len (.cons (.var 0) .nil)))) (.cons (.ix (.var 1) (.bin .mod (.var 6) (.bi .len (.cons (.var 1) .nil)))) .nil)))) (.cons (.asg 7 (.call 83 (.cons (.sl (.var 2) (.som (.var 5)) .non) (.cons (.sl (.var 3) (.som (.var 6)) .non) .nil)))) (.cons (.iff (.cmp .ge (.var 7) (.int 0)) (.cons (.asg 5 (.bin .add (.var 5) (.int 1))) .nil) .nil) (.cons (.iff (.cmp .le (.var 7) (.int 0)) (.cons (.asg 6 (.bin .add (.var 6) (.int 1))) .nil) .nil) .nil))))
theorem zlf {L1 L2' S1 S2 C:List D} {i j n m:Int} {c:Option B} {r:Bool} (hn:(L1.length:Int)=n) (hm:(L2'.length:Int)=m) (hr:decide (i<n\/j<m)=r) :
  evB Γ zih [some (.sh (.lst L1)),some (.sh (.lst L2')),some (.ow S1),some (.ow S2),some (.ow C),some (.sh (.int i)),some (.sh (.int j)),c]=some r:=by
 subst hr;by_cases h1:i<n
 ·rw [decide_eq_true (.inl h1)];have h1':(i<n)=True:=eq_true h1;walk_at "evh"
 ·have h1':(i<n)=False:=eq_false h1;by_cases h2:j<m
  ·have h2':(j<m)=True:=eq_true h2;rw [decide_eq_true (.inr h2)];walk_at "evh"
  ·have h2':(j<m)=False:=eq_false h2;rw [decide_eq_false (fun z=>z.elim h1 h2)];walk_at "evh"
theorem yaf {φ ψ:List D->Option W} (h67:Γ 67=φ) (h83:Γ 83=ψ) {L1 L2' S1 S2 C A B':List D} {i j n m b:Int} {x y z:D} {c:Option B} (hn:(L1.length:Int)=n) (hm:(L2'.length:Int)=m) (n0:0<n) (m0:0<m) (nz:(n=0)=False) (mz:(m=0)=False) (dn:zcy n=true) (dm:zcy m=true)
  (a1:L2.atI L1 (i%n)=some x) (a2:L2.atI L2' (j%m)=some y) (f:φ [x,y]=some (.val z)) (lz:lf z=true) (cz:(C.length<PySem.sizeLine)=True) (c1:cutD S1 (some i) none=A) (c2:cutD S2 (some j) none=B') (g:ψ [.lst A,.lst B']=some (.val (.int b))) :
  exs Γ zfn [some (.sh (.lst L1)),some (.sh (.lst L2')),some (.ow S1),some (.ow S2),some (.ow C),some (.sh (.int i)),some (.sh (.int j)),c]
   = some (.nx [some (.sh (.lst L1)),some (.sh (.lst L2')),some (.ow S1),some (.ow S2),some (.ow (C++[z])),some (.sh (.int (if 0<=b then i+1 else i))),some (.sh (.int (if b<=0 then j+1 else j))),some (.sh (.int b))]):=by
 unfold zfn;by_cases h1:0<=b <;> by_cases h2:b<=0
 ·rw [if_pos h1,if_pos h2];have h1':(0<=b)=True:=eq_true h1;have h2':(b<=0)=True:=eq_true h2;walk_at "evh"
 ·rw [if_pos h1,if_neg h2];have h1':(0<=b)=True:=eq_true h1;have h2':(b<=0)=False:=eq_false h2;walk_at "evh"
 ·rw [if_neg h1,if_pos h2];have h1':(0<=b)=False:=eq_false h1;have h2':(b<=0)=True:=eq_true h2;walk_at "evh"
 ·omega
end
open Sf Mg
section
variable {Γ:Nat->List D->Option W}
theorem yjn {s e s' e':Rat×Rat} (h:s≠e) (h':s'≠e'):∃ k:Rat,0<k/\(crI (zec s e) (zec s' e'):Rat)=k*xr (mn e s) (mn e' s'):=by
 obtain⟨_,k,kp,e1,e2,_⟩:=zwz (c:=(s.2-e.2)*s.1+(e.1-s.1)*s.2) (zkp h)
 obtain⟨_,k',kp',f1,f2,_⟩:=zwz (c:=(s'.2-e'.2)*s'.1+(e'.1-s'.1)*s'.2) (zkp h')
 refine⟨k*k',Y7 kp kp',?_⟩
 unfold crI zec xr mn;rw [Qo,Z7,Z7,e1,e2,f1,f2];grind
theorem ygn {c:Int} {k x:Rat} (hk:0<k) (e:(c:Rat)=k*x):(0<=c↔0<=x)/\(c<=0↔x<=0):=by
 have z:((0:Int):Rat)=0:=rfl;constructor
 ·rw [<- V6,z,e];constructor
  ·intro h;exact nn_of_mul hk (by rw [Rat.mul_comm];exact h)
  ·intro h;exact Yz (Y0 hk) h
 ·rw [<- V6,z,e];constructor
  ·intro h;have:=nn_of_mul (a:=-x) hk (by grind)
   grind
  ·intro h;have:=Yz (Y0 hk) (show 0 <= -x by grind)
   grind
theorem zvd {l:List (Rat×Rat)} {i:Nat} (hi:i<l.length):(B4 l).drop i=zec (rnd l i) (rnd l (i+1))::(B4 l).drop (i+1):=by
 have hl:i<(B4 l).length:=by unfold B4;rw [Zd,zbw];exact hi
 rw [Wp hl];congr 1
 have hp:i<(pairsOf l).length:=by rw [zbw];exact hi
 have g:=znd (l:=l) (k:=i) (Ze hp);have a:=zbl (l:=l) (by omega) i;have b:=zbl (l:=l) (by omega) (i+1);rw [Z5 hi] at a;rw [a] at g;rw [b] at g;have g1:=Yh g.1;have g2:=Yh g.2;show (List.map (fun p=>zec p.1 p.2) (pairsOf l))[i]'(by rw [Zd];exact hp)=_;rw [U2,<- g1,<- g2]
theorem zqm {l:List (Rat×Rat)} {i:Nat} (hi:¬ i<l.length):(B4 l).drop i=[]:=by
 refine List.drop_eq_nil_of_le ?_;unfold B4;rw [Zd,zbw];omega
theorem yea {l:List (Rat×Rat)} (nd:l.Nodup) (h2:2<=l.length) (i:Nat):rnd l i≠rnd l (i+1):=fun e=>by
 have:=zow nd (by omega) e.symm
 have a:=Qi i (show 0<l.length by omega);rw [<- Ju] at this;rcases Wg (i%l.length+1) l.length with k | k
 ·rw [Z5 k] at this;omega
 ·rw [show i%l.length+1=l.length by omega,K0] at this;omega
theorem bend1 (l:List H3):zjd l []=1:=by cases l <;> rfl
theorem bend2 (x:H3) (l:List H3):zjd [] (x::l) = -1:=rfl
theorem zyu {l r:List (Rat×Rat)} (nl:l.Nodup) (nr:r.Nodup) (l2:2<=l.length) (r2:2<=r.length) (i j:Nat) :
  (0<=zjd ((B4 l).drop i) ((B4 r).drop j)↔0<=bend (rnd l) (rnd r) l.length r.length i j)/\(zjd ((B4 l).drop i) ((B4 r).drop j)<=0↔bend (rnd l) (rnd r) l.length r.length i j<=0):=by
 unfold bend;by_cases hj:j<r.length
 ·rw [if_pos hj,zvd hj];by_cases hi:i<l.length
  ·rw [if_pos hi,zvd hi];refine xa (yjn (yea nl l2 i) (yea nr r2 j)) fun k kp e=>?_;exact ygn kp e
  ·rw [if_neg hi,zqm hi,bend2];exact⟨⟨fun h=>absurd h (by decide),fun h=>absurd h (by decide)⟩,⟨fun _=>by decide,fun _=>by decide⟩⟩
 ·rw [if_neg hj,zqm hj,bend1];exact⟨⟨fun _=>by decide,fun _=>by decide⟩,⟨fun h=>absurd h (by decide),fun h=>absurd h (by decide)⟩⟩
theorem zrp {l:List (Rat×Rat)} (nd:l.Nodup) (h2:2<=l.length) (hz:SzL 64 l):∀ s∈B4 l,HB 1200 s:=fun s hs=>by
 refine xa (Zz.mp hs) fun p hp e=>?_;refine xj (zwe nd h2 hp) fun a b c=>?_;rw [<- e];exact ygo (hz _ b).1 (hz _ b).2 (hz _ c).1 (hz _ c).2 a
theorem zqi (h67:Γ 67=zft) (h83:Γ 83=znm) {l r:List (Rat×Rat)} (nl:l.Nodup) (nr:r.Nodup) (l2:2<=l.length) (r2:2<=r.length) (zl:SzL 64 l) (zr:SzL 64 r) (ll:l.length<=400) (rl:r.length<=400) :
  ∀ (k i j:Nat) (C:List D) (c:Option B),i<=l.length->j<=r.length->l.length+r.length<=k+i+j->C.length+k<=1000 ->
  ∃ (i' j':Int) (c':Option B),zaa (evB Γ zih) (exs Γ zfn) (k+1) [some (.sh (.lst (l.map stD))),some (.sh (.lst (r.map stD))),some (.ow ((B4 l).map hD)),some (.ow ((B4 r).map hD)),some (.ow C),some (.sh (.int (i:Int))),some (.sh (.int (j:Int))),c]
   = some (.nx [some (.sh (.lst (l.map stD))),some (.sh (.lst (r.map stD))),some (.ow ((B4 l).map hD)),some (.ow ((B4 r).map hD)),some (.ow (C++(walk (rnd l) (rnd r) l.length r.length k (i,j)).map fun s=>stD (at2 (rnd l) (rnd r) s))),some (.sh (.int i')),some (.sh (.int j')),c'])
 | 0,i,j,C,c,hi,hj,hk,hC=>by
  refine⟨i,j,c,?_⟩
  unfold zaa;rw [zlf (n:=(l.length:Int)) (m:=(r.length:Int)) (r:=false) (by rw [Zd]) (by rw [Zd]) (decide_eq_false (by omega))];unfold walk;rw [Wn,Wk]
 | k+1,i,j,C,c,hi,hj,hk,hC=>by
  unfold zaa;by_cases cd:i<l.length\/j<r.length
  ·rw [zlf (n:=(l.length:Int)) (m:=(r.length:Int)) (r:=true) (by rw [Zd]) (by rw [Zd]) (decide_eq_true (by omega))];have l0:0<l.length:=by omega
   have r0:0<r.length:=by omega
   have g1:=zbl l0 i;have g2:=zbl r0 j;have a1:L2.atI (l.map stD) ((i:Int)%(l.length:Int))=some (stD (rnd l i)):=by
    rw [<- Int.natCast_emod];exact zsk (by rw [Zk,g1];rfl)
   have a2:L2.atI (r.map stD) ((j:Int)%(r.length:Int))=some (stD (rnd r j)):=by
    rw [<- Int.natCast_emod];exact zsk (by rw [Zk,g2];rfl)
   have ml:=zl _ (zdw l0 i);have mr:=zr _ (zdw r0 j);have f:=zzh ml ⟨mr.1.mono (by decide),mr.2.mono (by decide)⟩;have hs1:=zrp nl l2 zl;have hs2:=zrp nr r2 zr;have g:=ydd (A:=(B4 l).drop i) (B:=(B4 r).drop j) (fun s hs=>hs1 s (J0 hs)) (fun s hs=>hs2 s (J0 hs));have sl1:(B4 l).length=l.length:=by unfold B4;rw [Zd,zbw]
   have sl2:(B4 r).length=r.length:=by unfold B4;rw [Zd,zbw]
   have st:=yaf h67 h83 (c:=c) (C:=C) (n:=(l.length:Int)) (m:=(r.length:Int)) (by rw [Zd]) (by rw [Zd]) (by omega) (by omega) (eq_false (by omega)) (eq_false (by omega)) (zdy (by omega) (by omega)) (zdy (by omega) (by omega)) a1 a2 f rfl (eq_true (by rw [Yr];omega))
    (zpt (l:=(B4 l).map hD) (by rw [Zd,sl1];exact hi)) (zpt (l:=(B4 r).map hD) (by rw [Zd,sl2];exact hj)) (by rw [<- Ja,<- Ja];exact g)
   refine xg (zyu nl nr l2 r2 i j) fun b1 b2=>?_;have e1:(if 0<=zjd ((B4 l).drop i) ((B4 r).drop j) then (i:Int)+1 else (i:Int))=((nxt (rnd l) (rnd r) l.length r.length (i,j)).1:Int):=by
    unfold nxt;dsimp only;by_cases q:0<=zjd ((B4 l).drop i) ((B4 r).drop j)
    ·rw [if_pos q,if_pos (b1.mp q)];rfl
    ·rw [if_neg q,if_neg fun z=>q (b1.mpr z)]
   have e2:(if zjd ((B4 l).drop i) ((B4 r).drop j)<=0 then (j:Int)+1 else (j:Int))=((nxt (rnd l) (rnd r) l.length r.length (i,j)).2:Int):=by
    unfold nxt;dsimp only;by_cases q:zjd ((B4 l).drop i) ((B4 r).drop j)<=0
    ·rw [if_pos q,if_pos (b2.mp q)];rfl
    ·rw [if_neg q,if_neg fun z=>q (b2.mpr z)]
   rw [e1,e2] at st;have S:=zvz (P:=rnd l) (Q:=rnd r) (s:=(i,j)) hi hj cd;have bb:(nxt (rnd l) (rnd r) l.length r.length (i,j)).1<=l.length/\(nxt (rnd l) (rnd r) l.length r.length (i,j)).2<=r.length/\i+j+1<=(nxt (rnd l) (rnd r) l.length r.length (i,j)).1+(nxt (rnd l) (rnd r) l.length r.length (i,j)).2:=by
    rcases S with⟨e,a,_⟩ | ⟨e,a,_⟩ | ⟨e,a,a',_⟩ <;> rw [e] <;> dsimp only at * <;> omega
   refine xq (zqi h67 h83 nl nr l2 r2 zl zr ll rl k _ _ (C++[stD (pshR (rnd r j) (rnd l i))]) (some (.sh (.int (zjd ((B4 l).drop i) ((B4 r).drop j))))) bb.1 bb.2.1 (by omega) (by rw [Zq,Zj,Yb];omega)) fun i' j' c' ih=>?_;refine⟨i',j',c',?_⟩
   simp only [st];rw [ih];conv=>rhs;unfold walk
   rw [if_pos cd,Zv,Yy];rfl
  ·rw [zlf (n:=(l.length:Int)) (m:=(r.length:Int)) (r:=false) (by rw [Zd]) (by rw [Zd]) (decide_eq_false (by omega))];refine⟨i,j,c,?_⟩
   unfold walk;rw [if_neg cd,Wn,Wk]
noncomputable abbrev zhl:List (Nat×(List D->Option W)):=[(40,zhy),(67,zft),(83,znm)]
noncomputable def zfh:List D->Option W:=run (tab zhl) zex 8
theorem ok_summed (h40:Γ 40=zhy) (h67:Γ 67=zft) (h83:Γ 83=znm):∀ ds w,ds.length=2->zfh ds=some w->run Γ zex 8 ds=some w:=fun ds w _ h=>zcb zhl (by
 intro p hp;rcases Zi.mp hp with rfl | hp;exact h40
 rcases Zi.mp hp with rfl | hp;exact h67
 rcases Zt.mp hp with rfl;exact h83) (by decide) ds w h
theorem zss {σ:List D->Option W} (h40:Γ 40=σ) {L1 L2' S1 S2 O:List D} {i j:Int} {c:Option B} (s1:σ [.lst L1]=some (.new S1)) (s2:σ [.lst L2']=some (.new S2)) (f1:lfL S1=true) (f2:lfL S2=true)
  (w:zhd (evB Γ zih) (exs Γ zfn) [some (.sh (.lst L1)),some (.sh (.lst L2')),some (.ow S1),some (.ow S2),some (.ow []),some (.sh (.int 0)),some (.sh (.int 0)),none]=some (.nx [some (.sh (.lst L1)),some (.sh (.lst L2')),some (.ow S1),some (.ow S2),some (.ow O),some (.sh (.int i)),some (.sh (.int j)),c])) :
  run Γ zex 8 [.lst L1,.lst L2']=some (.new O):=by
 show run Γ (.cons (.asg 2 (.call 40 (.cons (.var 0) .nil))) (.cons (.asg 3 (.call 40 (.cons (.var 1) .nil))) (.cons (.asg 4 (.lst .nil)) (.cons (.asg 5 (.int 0)) (.cons (.asg 6 (.int 0)) (.cons (.whl zih zfn) (.cons (.retV 4) .nil))))))) 8 _=_;generalize zih=cd at *;generalize zfn=bd at *;walk_at "evh"
theorem zst {l r:List (Rat×Rat)} (nl:l.Nodup) (nr:r.Nodup) (l2:2<=l.length) (r2:2<=r.length) (zl:SzL 64 l) (zr:SzL 64 r) (ll:l.length<=400) (rl:r.length<=400):zfh [.lst (l.map stD),.lst (r.map stD)]=some (.new ((sumL l r).map stD)):=by
 unfold zfh;generalize hΓ:tab zhl=Γ;have h40:Γ 40=zhy:=by rw [<- hΓ];rfl
 have h67:Γ 67=zft:=by rw [<- hΓ];rfl
 have h83:Γ 83=znm:=by rw [<- hΓ];rfl
 refine xq (zqi h67 h83 nl nr l2 r2 zl zr ll rl (l.length+r.length) 0 0 [] none (Ya _) (Ya _) (by omega) (by rw [Yb];omega)) fun i' j' c' w=>?_;have:=zss h40 (zmn nl l2 (by omega) zl) (zmn nr r2 (by omega) zr) (zfu _) (zfu _) (zcz w)
 rw [this];show _=some (W.new (((Mg.sumW l r).map (at2 (rnd l) (rnd r))).map stD));rw [W6,Wb];rfl
end
open Sf Mg
section
variable {Γ:Nat->List D->Option W}
noncomputable def hgt (a b:Int) (q:Rat×Rat):Rat:=(a:Rat)*q.1+(b:Rat)*q.2
theorem zpk (a b:Int) (q:Rat×Rat):Rat.divInt (a*(hom q).1+b*(hom q).2.1) (hom q).2.2=hgt a b q:=by
 have w:=cast_pos.mpr (zfm q);have x:=znv q;have y:=znu q;rw [Uy,Vk,Z7,Z7,x,y];unfold hgt;have hne:((hom q).2.2:Rat)≠0:=fun z=>by rw [z] at w;exact absurd w (by decide)
 have e:(a:Rat)*(q.1*((hom q).2.2:Rat))+(b:Rat)*(q.2*((hom q).2.2:Rat))=((a:Rat)*q.1+(b:Rat)*q.2)*((hom q).2.2:Rat):=by grind
 rw [e,Um hne]
noncomputable def lstG (a b:Int):Option Rat->List (Rat×Rat)->Option Rat
 | o,[]=>o
 | none,q::l=>lstG a b (some (hgt a b q)) l
 | some x,q::l=>lstG a b (some (if hgt a b q<x then hgt a b q else x)) l
noncomputable def oD:Option Rat->D
 | none=>.non
 | some x=>fr x
noncomputable abbrev zas:Ss:=(.cons (.unp [5,6,7] (.call 30 (.cons (.var 4) .nil))) (.cons (.asg 8 (.call 13 (.cons (.bin .add (.bin .mul (.var 1) (.var 5)) (.bin .mul (.var 2) (.var 6))) (.cons (.var 7) .nil)))) (.cons (.iff (.or (.cmp .isN (.var 3) .non) (.cmp .lt (.bin .mul (.ix (.var 8) (.int 0)) (.ix (.var 3) (.int 1))) (.bin .mul (.ix (.var 3) (.int 0)) (.ix (.var 8) (.int 1))))) (.cons (.asg 3 (.var 8)) .nil) .nil) .nil)))
theorem zpi {φ ψ:List D->Option W} (h30:Γ 30=φ) (h13:Γ 13=ψ) {LL:List D} {a b X Y Z s t:Int} {q:D} {c5 c6 c7 c8:Option B} (fq:φ [q]=some (.val (.tup [.int X,.int Y,.int Z]))) (m1:B0 a X=true) (m2:B0 b Y=true) (hr:ψ [.int (a*X+b*Y),.int Z]=some (.val (.tup [.int s,.int t]))) :
  exs Γ zas [some (.sh (.lst LL)),some (.sh (.int a)),some (.sh (.int b)),some (.sh .non),some (.sh q),c5,c6,c7,c8]=some (.nx [some (.sh (.lst LL)),some (.sh (.int a)),some (.sh (.int b)),some (.sh (.tup [.int s,.int t])),some (.sh q),some (.sh (.int X)),some (.sh (.int Y)),some (.sh (.int Z)),some (.sh (.tup [.int s,.int t]))]):=by
 unfold zas;walk_at "evh"
theorem zph {φ ψ:List D->Option W} (h30:Γ 30=φ) (h13:Γ 13=ψ) {LL:List D} {a b X Y Z s t u v:Int} {r:Bool} {q:D} {c5 c6 c7 c8:Option B} (fq:φ [q]=some (.val (.tup [.int X,.int Y,.int Z]))) (m1:B0 a X=true) (m2:B0 b Y=true) (m3:B0 s v=true) (m4:B0 u t=true) (hr:ψ [.int (a*X+b*Y),.int Z]=some (.val (.tup [.int s,.int t]))) (hc:decide (s*v<u*t)=r) :
  exs Γ zas [some (.sh (.lst LL)),some (.sh (.int a)),some (.sh (.int b)),some (.sh (.tup [.int u,.int v])),some (.sh q),c5,c6,c7,c8]=some (.nx [some (.sh (.lst LL)),some (.sh (.int a)),some (.sh (.int b)),some (.sh (if r=true then .tup [.int s,.int t] else .tup [.int u,.int v])),some (.sh q),some (.sh (.int X)),some (.sh (.int Y)),some (.sh (.int Z)),some (.sh (.tup [.int s,.int t]))]):=by
 unfold zas;cases r with
 | true=>
  have hc':(s*v<u*t)=True:=eq_true (of_decide_eq_true hc);rw [if_pos rfl];clear hc;walk_at "evh"
 | false=>
  have hc':(s*v<u*t)=False:=eq_false (of_decide_eq_false hc);rw [if_neg Zw];clear hc;walk_at "evh"
theorem zuw {a b:Int} {q:Rat×Rat} (ha:a.natAbs<2^600) (hb:b.natAbs<2^600) (h1:Sz 64 q.1) (h2:Sz 64 q.2):Sz 800 (hgt a b q):=by
 have H:=znt h1 h2;rw [<- zpk];refine zuv (U4 (zfm q)) ?_ (Zp H.c (Y8 (by decide) (by decide)));have x1:=Bw ha H.a;have x2:=Bw hb H.b;have p:(2:Nat)^(600+(64+64))+2^(600+(64+64))<=2^800:=by
  rw [<- Nat.two_mul,<- Nat.pow_succ'];exact Y8 (by decide) (by decide)
 have:=Bm (a*(hom q).1) (b*(hom q).2.1)
 omega
theorem zjp (h30:Γ 30=zen) (h13:Γ 13=zan) {a b:Int} (ha:a.natAbs<2^600) (hb:b.natAbs<2^600) {LL:List D}:∀ (l:List (Rat×Rat)) (o:Option Rat) (c4 c5 c6 c7 c8:Option B),SzL 64 l->(∀ x,o=some x->Sz 800 x) ->
  ∃ c4' c5' c6' c7' c8',forN (B5 (.name 4)) (exs Γ zas) (l.map stD) [some (.sh (.lst LL)),some (.sh (.int a)),some (.sh (.int b)),some (.sh (oD o)),c4,c5,c6,c7,c8]
   = some (.nx [some (.sh (.lst LL)),some (.sh (.int a)),some (.sh (.int b)),some (.sh (oD (lstG a b o l))),c4',c5',c6',c7',c8'])
 | [],o,c4,c5,c6,c7,c8,_,_=>⟨c4,c5,c6,c7,c8,by cases o <;> rfl⟩
 | q::l,o,c4,c5,c6,c7,c8,hz,ho=>by
  have hq:=hz q (.head _);have H:=znt hq.1 hq.2;have fl:=zgu hq.1 hq.2 (by decide);have m1:B0 a (hom q).1=true:=Bv ha H.a (by decide) (by decide);have m2:B0 b (hom q).2.1=true:=Bv hb H.b (by decide) (by decide);have r:=zem (t:=a*(hom q).1+b*(hom q).2.1) (U4 (zfm q)) (Zp H.c (Y8 (by decide) (by decide)));rw [zpk] at r;have hs:=zuw ha hb hq.1 hq.2;have hz':SzL 64 l:=fun x hx=>hz x (.tail _ hx)
  have go:∀ (o':Option Rat) (d5 d6 d7 d8:Option B),(∀ x,o'=some x->Sz 800 x)->exs Γ zas [some (.sh (.lst LL)),some (.sh (.int a)),some (.sh (.int b)),some (.sh (oD o)),some (.sh (stD q)),c5,c6,c7,c8]=some (.nx [some (.sh (.lst LL)),some (.sh (.int a)),some (.sh (.int b)),some (.sh (oD o')),some (.sh (stD q)),d5,d6,d7,d8])->lstG a b o (q::l)=lstG a b o' l ->
    ∃ c4' c5' c6' c7' c8',forN (B5 (.name 4)) (exs Γ zas) ((q::l).map stD) [some (.sh (.lst LL)),some (.sh (.int a)),some (.sh (.int b)),some (.sh (oD o)),c4,c5,c6,c7,c8]
     = some (.nx [some (.sh (.lst LL)),some (.sh (.int a)),some (.sh (.int b)),some (.sh (oD (lstG a b o (q::l)))),c4',c5',c6',c7',c8']):=fun o' d5 d6 d7 d8 ho' st e=>by
   obtain⟨c4',c5',c6',c7',c8',k⟩:=zjp h30 h13 ha hb l o' (some (.sh (stD q))) d5 d6 d7 d8 hz' ho'
   refine⟨c4',c5',c6',c7',c8',?_⟩
   rw [Zv,e];unfold forN;simp only [zgz,zjl,zjk,Yq,Yd];rw [st];exact k
  cases o with
  | none=>exact go (some (hgt a b q)) _ _ _ _ (fun x hx=>by cases hx;exact hs) (zpi h30 h13 fl m1 m2 r) rfl
  | some x=>
   have hx:=ho x rfl;have m3:B0 (hgt a b q).num (x.den:Int)=true:=Bv hs.t (Bq hx) (by decide) (by decide);have m4:B0 x.num ((hgt a b q).den:Int)=true:=Bv hx.t (Bq hs) (by decide) (by decide);have st:=zph (c5:=c5) (c6:=c6) (c7:=c7) (c8:=c8) (LL:=LL) h30 h13 fl m1 m2 m3 m4 r rfl;have e:(if decide ((hgt a b q).num*(x.den:Int)<x.num*((hgt a b q).den:Int))=true then D.tup [.int (hgt a b q).num,.int ((hgt a b q).den:Int)] else D.tup [.int x.num,.int (x.den:Int)])=oD (some (if hgt a b q<x then hgt a b q else x)):=by
    by_cases c:hgt a b q<x
    ·have c':(hgt a b q).num*(x.den:Int)<x.num*((hgt a b q).den:Int):=(Rat.lt_iff _ _).mp c;rw [if_pos (decide_eq_true c'),if_pos c];rfl
    ·have c':¬ (hgt a b q).num*(x.den:Int)<x.num*((hgt a b q).den:Int):=fun z=>c ((Rat.lt_iff _ _).mpr z)
     rw [if_neg (by rw [decide_eq_false c'];exact Zw),if_neg c];rfl
   rw [e] at st;exact go _ _ _ _ _ (fun y hy=>by cases hy;split <;> assumption) st rfl
noncomputable abbrev zkc:List (Nat×(List D->Option W)):=[(30,zen),(13,zan)]
noncomputable def zia:List D->Option W:=run (tab zkc) zaq 9
theorem ok_law_least_k18 (h30:Γ 30=zen) (h13:Γ 13=zan):∀ ds w,ds.length=3->zia ds=some w->run Γ zaq 9 ds=some w:=fun ds w _ h=>zcb zkc (by
 intro p hp;rcases Zi.mp hp with rfl | hp;exact h30
 rcases Zt.mp hp with rfl;exact h13) (by decide) ds w h
theorem zxc {LL:List D} {a b:Int} {O:D} {c4 c5 c6 c7 c8:Option B} (k:forN (B5 (.name 4)) (exs Γ zas) LL [some (.sh (.lst LL)),some (.sh (.int a)),some (.sh (.int b)),some (.sh .non),none,none,none,none,none]
   = some (.nx [some (.sh (.lst LL)),some (.sh (.int a)),some (.sh (.int b)),some (.sh O),c4,c5,c6,c7,c8])):run Γ zaq 9 [.lst LL,.int a,.int b]=some (.val O):=by
 show run Γ (.cons (.asg 3 .non) (.cons (.frr (.name 4) (.seqV 0) zas) (.cons (.retV 3) .nil))) 9 _=_;generalize zas=bd at *;walk_at "evh"
theorem zno {l:List (Rat×Rat)} {a b:Int} (ha:a.natAbs<2^600) (hb:b.natAbs<2^600) (hz:SzL 64 l):zia [.lst (l.map stD),.int a,.int b]=some (.val (oD (lstG a b none l))):=by
 unfold zia;generalize hΓ:tab zkc=Γ;have h30:Γ 30=zen:=by rw [<- hΓ];rfl
 have h13:Γ 13=zan:=by rw [<- hΓ];rfl
 obtain⟨_,_,_,_,_,k⟩:=zjp h30 h13 ha hb (LL:=l.map stD) l none none none none none none hz (fun x hx=>by cases hx)
 exact zxc k
theorem zwu {a b:Int}:∀ {l:List (Rat×Rat)} {x:Rat},∃ y,lstG a b (some x) l=some y/\y<=x/\(∀ q∈l,y<=hgt a b q)/\(y=x\/∃ q∈l,y=hgt a b q)
 | [],x=>⟨x,rfl,Kr,fun q h=>absurd h W2,.inl rfl⟩
 | q::l,x=>by
  refine xG (zwu (a:=a) (b:=b) (l:=l) (x:=if hgt a b q<x then hgt a b q else x)) fun y e h1 h2 h3=>?_;refine⟨y,e,?_,fun p hp=>?_,?_⟩
  ·split at h1 <;> grind
  ·rcases Zi.mp hp with k | k
   ·subst k;split at h1 <;> grind
   ·exact h2 p k
  ·rcases h3 with h3 | ⟨p,hp,h3⟩
   ·split at h3
    ·exact .inr ⟨q,.head _,h3⟩
    ·exact .inl h3
   ·exact .inr ⟨p,.tail _ hp,h3⟩
theorem zri {a b:Int} {l:List (Rat×Rat)} {u:Rat×Rat} (hu:u∈l) (h:∀ c∈l,hgt a b u<=hgt a b c):lstG a b none l=some (hgt a b u):=by
 cases l with
 | nil=>cases hu
 | cons q l=>
  refine xG (zwu (a:=a) (b:=b) (l:=l) (x:=hgt a b q)) fun y e h1 h2 h3=>?_;show lstG a b (some (hgt a b q)) l=_;rw [e];congr 1
  have k1:y<=hgt a b u:=by
   rcases Zi.mp hu with k | k
   ·subst k;exact h1
   ·exact h2 u k
  have k2:hgt a b u<=y:=by
   rcases h3 with h3 | ⟨p,hp,h3⟩
   ·rw [h3];exact h q (.head _)
   ·rw [h3];exact h p (.tail _ hp)
  exact Rat.le_antisymm k1 k2
end
open Sf Mg
section
variable {Γ:Nat->List D->Option W}
theorem zku {n:Nat} {x y:Rat} (hx:Sz n x) (hy:Sz n y) (hn:n<=4000):zgh [fr x,fr y]=some (.val (fr (x+y))):=by
 unfold zgh;generalize hΓ:tab ygf=Γ;have h13:Γ 13=zan:=by rw [<- hΓ];rfl
 have m1:B0 x.num (y.den:Int)=true:=Bv hx.t (Bq hy) (by omega) (by omega);have m2:B0 y.num (x.den:Int)=true:=Bv hy.t (Bq hx) (by omega) (by omega);have m3:B0 (x.den:Int) (y.den:Int)=true:=Bv (Bq hx) (Bq hy) (by omega) (by omega);have d1:=Bw (Bq hx) (Bq hy);have d0:(x.den:Int)*(y.den:Int)≠0:=U4 (Ks (zam x) (zam y));have r:=zem (t:=x.num*(y.den:Int)+y.num*(x.den:Int)) d0 (Zp d1 (Y8 (by decide) (by omega)));rw [add_r] at r;generalize fr (x+y)=O at *;clear hx hy hΓ d0 d1;unfold zca fr;walk_at "evh"
theorem fr_nes (x:Rat):cmpD .ne (fr x) (fr x)=some false:=by
 have d:dOkL 49 [D.int x.num,D.int (x.den:Int)]=true:=rfl;show ((if (dOkL 49 [.int x.num,.int (x.den:Int)] && dOkL 49 [.int x.num,.int (x.den:Int)])=true then some (eqL [.int x.num,.int (x.den:Int)] [.int x.num,.int (x.den:Int)]) else none):Option Bool).map not=_;rw [d,Ul,if_pos rfl];simp only [eqL,eqD,V3];simp
noncomputable abbrev zjw:Ss:=(.cons (.asg 4 (.call 30 (.cons (.ix (.var 0) (.bin .sub (.var 3) (.int 1))) .nil))) (.cons (.asg 5 (.call 30 (.cons (.ix (.var 0) (.var 3)) .nil))) (.cons (.asg 6 (.bin .sub (.bin .mul (.ix (.var 4) (.int 1)) (.ix (.var 5) (.int 2))) (.bin .mul (.ix (.var 5) (.int 1)) (.ix (.var 4) (.int 2))))) (.cons (.asg 7 (.bin .sub (.bin .mul (.ix (.var 5) (.int 0)) (.ix (.var 4) (.int 2))) (.bin .mul (.ix (.var 4) (.int 0)) (.ix (.var 5) (.int 2))))) (.cons (.asg 8 (.call 13 (.cons (.bin .add (.bin .mul (.var 6) (.ix (.var 5) (.int 0))) (.bin .mul (.var 7) (.ix (.var 5) (.int 1)))) (.cons (.ix (.var 5) (.int 2)) .nil)))) (.cons (.iff (.cmp .ne (.var 8) (.call 73 (.cons (.call 84 (.cons (.var 1) (.cons (.var 6) (.cons (.var 7) .nil)))) (.cons (.call 84 (.cons (.var 2) (.cons (.var 6) (.cons (.var 7) .nil)))) .nil)))) (.cons (.ret (.bl false)) .nil) .nil) .nil))))))
theorem ygu {φ ψ χ ω:List D->Option W} (h30:Γ 30=φ) (h13:Γ 13=ψ) (h73:Γ 73=χ) (h84:Γ 84=ω) {LL L1 L2':List D} {k P1 P2 P3 Q1 Q2 Q3 A C:Int} {p q h x y:D} {c4 c5 c6 c7 c8:Option B}
  (a1:L2.atI LL (k-1)=some p) (a2:L2.atI LL k=some q) (f1:φ [p]=some (.val (.tup [.int P1,.int P2,.int P3]))) (f2:φ [q]=some (.val (.tup [.int Q1,.int Q2,.int Q3])))
  (m1:B0 P2 Q3=true) (m2:B0 Q2 P3=true) (m3:B0 Q1 P3=true) (m4:B0 P1 Q3=true) (eA:P2*Q3-Q2*P3=A) (eC:Q1*P3-P1*Q3=C) (m5:B0 A Q1=true) (m6:B0 C Q2=true)
  (hr:ψ [.int (A*Q1+C*Q2),.int Q3]=some (.val h)) (hx:ω [.lst L1,.int A,.int C]=some (.val x)) (hy:ω [.lst L2',.int A,.int C]=some (.val y)) (ha:χ [x,y]=some (.val h)) (hc:cmpD .ne h h=some false) (lh:lf h=true) :
  exs Γ zjw [some (.sh (.lst LL)),some (.sh (.lst L1)),some (.sh (.lst L2')),some (.sh (.int k)),c4,c5,c6,c7,c8]=some (.nx [some (.sh (.lst LL)),some (.sh (.lst L1)),some (.sh (.lst L2')),some (.sh (.int k)),some (.sh (.tup [.int P1,.int P2,.int P3])),some (.sh (.tup [.int Q1,.int Q2,.int Q3])),some (.sh (.int A)),some (.sh (.int C)),some (.sh h)]):=by
 unfold zjw;walk_at "evh"
theorem zeq (a b c:Rat×Rat):hgt ((hom a).2.1*(hom b).2.2-(hom b).2.1*(hom a).2.2) ((hom b).1*(hom a).2.2-(hom a).1*(hom b).2.2) c=((hom a).2.2:Rat)*((hom b).2.2:Rat)*xr (mn b a) c:=by
 unfold hgt xr mn;rw [Qo,Qo,Z7,Z7,Z7,Z7,znv,znv,znu,znu];grind
theorem mn_bd {n:Nat} {x y z u:Int} (hx:x.natAbs<2^n) (hy:y.natAbs<2^n) (hz:z.natAbs<2^n) (hu:u.natAbs<2^n):(x*y-z*u).natAbs<2^(n+n+1):=by
 have a:=Bw hx hy;have b:=Bw hz hu;have:=Int.natAbs_sub_le (x*y) (z*u)
 rw [Jt];omega
theorem ydw {l r:List (Rat×Rat)} (l0:0<l.length) (r0:0<r.length) (zl:SzL 64 l) (zr:SzL 64 r):SzL 129 (sumL l r):=fun q hq=>by
 refine vm (zux l0 r0 hq) fun u hu v hv e=>?_;subst e;exact⟨(zl u hu).1.add (zr v hv).1,(zl u hu).2.add (zr v hv).2⟩
noncomputable abbrev yge:List (Nat×(List D->Option W)):=[(30,zen),(13,zan),(73,zgh),(84,zia)]
noncomputable def mSA:List D->Option W:=run (tab yge) zao 9
theorem ok_law_sides_add (h30:Γ 30=zen) (h13:Γ 13=zan) (h73:Γ 73=zgh) (h84:Γ 84=zia):∀ ds w,ds.length=3->mSA ds=some w->run Γ zao 9 ds=some w:=fun ds w _ h=>zcb yge (by
 intro p hp;rcases Zi.mp hp with rfl | hp;exact h30
 rcases Zi.mp hp with rfl | hp;exact h13
 rcases Zi.mp hp with rfl | hp;exact h73
 rcases Zt.mp hp with rfl;exact h84) (by decide) ds w h
theorem sa_run {LL L1 L2' Z:List D} {M:Int} {ρ:RhoS} (hM:(LL.length:Int)=M) (hr:(-4611686018427387904<=M/\M<4611686018427387904)=True) (rg:zag 0 M.toNat=Z)
  (k:forN (B5 (.name 3)) (exs Γ zjw) Z [some (.sh (.lst LL)),some (.sh (.lst L1)),some (.sh (.lst L2')),none,none,none,none,none,none]=some (.nx ρ)):run Γ zao 9 [.lst LL,.lst L1,.lst L2']=some (.val (.bl true)):=by
 show run Γ (.cons (.frr (.name 3) (.range1 (.bi .len (.cons (.var 0) .nil))) zjw) (.cons (.ret (.bl true)) .nil)) 9 _=_;generalize zjw=bd at *;walk_at "evh"
theorem sa_int {l r:List (Rat×Rat)} (hl:IsShp l) (nl:l.Nodup) (hr:IsShp r) (nr:r.Nodup) (zl:SzL 64 l) (zr:SzL 64 r) (ll:l.length<=400) (rl:r.length<=400):mSA [.lst ((sumL l r).map stD),.lst (l.map stD),.lst (r.map stD)]=some (.val (.bl true)):=by
 have l3:=hl.three;have r3:=hr.three;have hR:=zme hl nl hr nr;have R3:=hR.three;have Rl:=zot l r;have zR:=ydw (by omega) (by omega) zl zr;have low:=fun k a b=>@ygi l r hl nl hr nr k a b
 unfold mSA;generalize hΓ:tab yge=Γ;have h30:Γ 30=zen:=by rw [<- hΓ];rfl
 have h13:Γ 13=zan:=by rw [<- hΓ];rfl
 have h73:Γ 73=zgh:=by rw [<- hΓ];rfl
 have h84:Γ 84=zia:=by rw [<- hΓ];rfl
 generalize sumL l r=R at *;obtain⟨ρ,k,_⟩:∃ ρ,forN (B5 (.name 3)) (exs Γ zjw) (zag 0 R.length) [some (.sh (.lst (R.map stD))),some (.sh (.lst (l.map stD))),some (.sh (.lst (r.map stD))),none,none,none,none,none,none]=some (.nx ρ)/\∃ c3 c4 c5 c6 c7 c8,ρ=[some (.sh (.lst (R.map stD))),some (.sh (.lst (l.map stD))),some (.sh (.lst (r.map stD))),c3,c4,c5,c6,c7,c8]:=by
  refine zdn (I:=fun ρ=>∃ c3 c4 c5 c6 c7 c8,ρ=[some (.sh (.lst (R.map stD))),some (.sh (.lst (l.map stD))),some (.sh (.lst (r.map stD))),c3,c4,c5,c6,c7,c8]) _ (fun d hd ρ hρ=>?_) _ ⟨none,none,none,none,none,none,rfl⟩;refine vB hρ fun c3 c4 c5 c6 c7 c8 qz6=>?_;clear hρ;subst qz6
  unfold zag at hd;refine xa (Zz.mp hd) fun i hi e=>?_;subst e;rw [Int.zero_add];have hi':=Wi.mp hi;have hp:(i+R.length-1)%R.length<R.length:=Qi _ (by omega);obtain⟨b,gb⟩:∃ b,R[i]? = some b:=⟨_,Ze hi'⟩
  obtain⟨a,ga⟩:∃ a,R[(i+R.length-1)%R.length]? = some a:=⟨_,Ze hp⟩
  refine vq (low i _ _ ga gb) fun u hu v hv e lu lv'=>?_;have mb:=zR _ (Zn gb);have ma:=zR _ (Zn ga);have a2:L2.atI (R.map stD) (i:Int)=some (stD b):=zsk (by rw [Zk,gb];rfl);have a1:L2.atI (R.map stD) ((i:Int)-1)=some (stD a):=by
   rw [zyz (by rw [Zd];exact hi'),Zd,Zk,ga];rfl
  have Ha:=znt ma.1 ma.2;have Hb:=znt mb.1 mb.2;have f1:=zgu ma.1 ma.2 (by decide);have f2:=zgu mb.1 mb.2 (by decide);have bA:=mn_bd Ha.b Hb.c Hb.b Ha.c;have bC:=mn_bd Hb.a Ha.c Ha.a Hb.c;have bA':((hom a).2.1*(hom b).2.2-(hom b).2.1*(hom a).2.2).natAbs<2^600:=Zp bA (Y8 (by decide) (by decide));have bC':((hom b).1*(hom a).2.2-(hom a).1*(hom b).2.2).natAbs<2^600:=Zp bC (Y8 (by decide) (by decide));have hr:=zem (t:=((hom a).2.1*(hom b).2.2-(hom b).2.1*(hom a).2.2)*(hom b).1+((hom b).1*(hom a).2.2-(hom a).1*(hom b).2.2)*(hom b).2.1) (U4 (zfm b)) (Zp Hb.c (Y8 (by decide) (by decide)));rw [zpk] at hr;have kp:(0:Rat)<((hom a).2.2:Rat)*((hom b).2.2:Rat):=Y7 (cast_pos.mpr (zfm a)) (cast_pos.mpr (zfm b));have mono:∀ x y:Rat×Rat,0<=xr (mn b a) (mn y x)->hgt ((hom a).2.1*(hom b).2.2-(hom b).2.1*(hom a).2.2) ((hom b).1*(hom a).2.2-(hom a).1*(hom b).2.2) x<=hgt ((hom a).2.1*(hom b).2.2-(hom b).2.1*(hom a).2.2) ((hom b).1*(hom a).2.2-(hom a).1*(hom b).2.2) y:=fun x y h=>by
   rw [zeq,zeq];have:=Yz (Y0 kp) h
   have e:xr (mn b a) (mn y x)=xr (mn b a) y-xr (mn b a) x:=by
    generalize mn b a=g;unfold xr mn;grind
   rw [e] at this;grind
  have x1:=zno bA' bC' zl;have x2:=zno bA' bC' zr;rw [zri hu fun c hc=>mono u c (lu c hc)] at x1;rw [zri hv fun c hc=>mono v c (lv' c hc)] at x2;have su:=zuw bA' bC' (zl u hu).1 (zl u hu).2;have sv:=zuw bA' bC' (zr v hv).1 (zr v hv).2;have ad:=zku su sv (by decide);have hsum:hgt ((hom a).2.1*(hom b).2.2-(hom b).2.1*(hom a).2.2) ((hom b).1*(hom a).2.2-(hom a).1*(hom b).2.2) u+hgt ((hom a).2.1*(hom b).2.2-(hom b).2.1*(hom a).2.2) ((hom b).1*(hom a).2.2-(hom a).1*(hom b).2.2) v=hgt ((hom a).2.1*(hom b).2.2-(hom b).2.1*(hom a).2.2) ((hom b).1*(hom a).2.2-(hom a).1*(hom b).2.2) b:=by
   rw [zeq,zeq,zeq];have e2:xr (mn b a) b=xr (mn b a) u+xr (mn b a) v:=by
    rw [e];unfold xr mn pl;grind
   rw [e2];grind
  rw [hsum] at ad;have st:=ygu (c4:=c4) (c5:=c5) (c6:=c6) (c7:=c7) (c8:=c8) h30 h13 h73 h84 a1 a2 f1 f2 (Bv Ha.b Hb.c (by decide) (by decide)) (Bv Hb.b Ha.c (by decide) (by decide)) (Bv Hb.a Ha.c (by decide) (by decide)) (Bv Ha.a Hb.c (by decide) (by decide)) rfl rfl (Bv bA' Hb.a (by decide) (by decide)) (Bv bC' Hb.b (by decide) (by decide)) hr x1 x2 ad (fr_nes _) rfl;exact⟨_,_,rfl,st,_,_,_,_,_,_,rfl⟩
 exact sa_run (M:=(R.length:Int)) (by rw [Zd]) (eq_true (by omega)) (by rw [Qq]) k
end
open Sf Mg
section
variable {Γ:Nat->List D->Option W}
noncomputable abbrev zjx:Ss:=(.cons (.app 3 (.tup (.cons (.call 73 (.cons (.var 4) (.cons (.var 6) .nil))) (.cons (.call 73 (.cons (.var 5) (.cons (.var 7) .nil))) .nil)))) .nil)
theorem yit {χ:List D->Option W} (h73:Γ 73=χ) {F L1 L2' C:List D} {x y u v s t:D} (h1:χ [x,u]=some (.val s)) (h2:χ [y,v]=some (.val t)) (cz:(C.length<PySem.sizeLine)=True) (ls:lf s=true) (lt:lf t=true) :
  exs Γ zjx [some (.sh (.lst F)),some (.sh (.lst L1)),some (.sh (.lst L2')),some (.ow C),some (.sh x),some (.sh y),some (.sh u),some (.sh v)]=some (.nx [some (.sh (.lst F)),some (.sh (.lst L1)),some (.sh (.lst L2')),some (.ow (C++[.tup [s,t]])),some (.sh x),some (.sh y),some (.sh u),some (.sh v)]):=by
 unfold zjx;walk_at "evh"
theorem zxi (h73:Γ 73=zgh) {F L1 L2':List D} {p:Rat×Rat} (hp:Sz 64 p.1/\Sz 64 p.2):∀ (r:List (Rat×Rat)) (C:List D) (c6 c7:Option B),SzL 64 r->C.length+r.length<=500000 ->
  ∃ c6' c7',forN (B5 (.tup [6,7])) (exs Γ zjx) (r.map stD) [some (.sh (.lst F)),some (.sh (.lst L1)),some (.sh (.lst L2')),some (.ow C),some (.sh (fr p.1)),some (.sh (fr p.2)),c6,c7]
   = some (.nx [some (.sh (.lst F)),some (.sh (.lst L1)),some (.sh (.lst L2')),some (.ow (C++r.map fun q=>stD (pl p q))),some (.sh (fr p.1)),some (.sh (fr p.2)),c6',c7'])
 | [],C,c6,c7,_,_=>⟨c6,c7,by rw [Wn,Wn,Wk];rfl⟩
 | q::r,C,c6,c7,hz,hC=>by
  rw [Zj] at hC;have hq:=hz q (.head _);have a1:=zku hp.1 hq.1 (by decide);have a2:=zku hp.2 hq.2 (by decide);have st:=yit h73 (F:=F) (L1:=L1) (L2':=L2') (C:=C) a1 a2 (eq_true (by rw [Yr];omega)) rfl rfl;obtain⟨c6',c7',k⟩:=zxi h73 hp r (C++[stD (pl p q)]) (some (.sh (fr q.1))) (some (.sh (fr q.2))) (fun x hx=>hz x (.tail _ hx)) (by rw [Zq,Zj,Yb];omega)
  refine⟨c6',c7',?_⟩
  rw [Zv,Zv];unfold forN;simp only [stD,zll,zcv,zjl,zjk,Yq,Yd];rw [st];rw [Yy] at k;exact k
noncomputable abbrev zfp:Ss:=(.cons (.frr (.tup [6,7]) (.seqV 2) zjx) .nil)
noncomputable def allS (l r:List (Rat×Rat)):List (Rat×Rat):=l.flatMap fun p=>r.map fun q=>pl p q
theorem ybb {F L1 L2' C C':List D} {x y:D} {c6 c7 c6' c7':Option B} (k:forN (B5 (.tup [6,7])) (exs Γ zjx) L2' [some (.sh (.lst F)),some (.sh (.lst L1)),some (.sh (.lst L2')),some (.ow C),some (.sh x),some (.sh y),c6,c7]=some (.nx [some (.sh (.lst F)),some (.sh (.lst L1)),some (.sh (.lst L2')),some (.ow C'),some (.sh x),some (.sh y),c6',c7'])) :
  exs Γ zfp [some (.sh (.lst F)),some (.sh (.lst L1)),some (.sh (.lst L2')),some (.ow C),some (.sh x),some (.sh y),c6,c7]=some (.nx [some (.sh (.lst F)),some (.sh (.lst L1)),some (.sh (.lst L2')),some (.ow C'),some (.sh x),some (.sh y),c6',c7']):=by
 unfold zfp;generalize zjx=bd at *;walk_at "evh"
theorem zqy (h73:Γ 73=zgh) {F L1:List D} {r:List (Rat×Rat)} (zr:SzL 64 r) (rl:r.length<=400):∀ (l:List (Rat×Rat)) (C:List D) (c4 c5 c6 c7:Option B),SzL 64 l->C.length+l.length*400<=400000 ->
  ∃ c4' c5' c6' c7',forN (B5 (.tup [4,5])) (exs Γ zfp) (l.map stD) [some (.sh (.lst F)),some (.sh (.lst L1)),some (.sh (.lst (r.map stD))),some (.ow C),c4,c5,c6,c7]
   = some (.nx [some (.sh (.lst F)),some (.sh (.lst L1)),some (.sh (.lst (r.map stD))),some (.ow (C++(allS l r).map stD)),c4',c5',c6',c7'])
 | [],C,c4,c5,c6,c7,_,_=>⟨c4,c5,c6,c7,by show some _=some (Out.nx [_,_,_,some (B.ow (C++[])),_,_,_,_]);rw [Wk]⟩
 | p::l,C,c4,c5,c6,c7,hz,hC=>by
  rw [Zj] at hC;have hp:=hz p (.head _);refine xl (zxi h73 (F:=F) (L1:=L1) (L2':=r.map stD) hp r C c6 c7 zr (by omega)) fun c6' c7' k=>?_;have st:=ybb k;obtain⟨d4,d5,d6,d7,k2⟩:=zqy h73 zr rl l (C++r.map fun q=>stD (pl p q)) (some (.sh (fr p.1))) (some (.sh (fr p.2))) c6' c7' (fun x hx=>hz x (.tail _ hx)) (by rw [Zq,Zd];omega)
  refine⟨d4,d5,d6,d7,?_⟩
  rw [Zv];unfold forN;simp only [stD,zll,zcv,zjl,zjk,Yq,Yd];rw [st];have e:C++(allS (p::l) r).map stD=C++(r.map fun q=>stD (pl p q))++(allS l r).map stD:=by
   unfold allS;rw [List.flatMap_cons,Yk,W6,Yy];rfl
  rw [e];exact k2
theorem znz {α:Type} {f:D->Option (Option D)} {g h:α->D} {p:α->Bool}:∀ {l:List α},(∀ x∈l,f (g x)=some (if p x=true then some (h x) else none))->zcp f (l.map g)=some ((l.filter p).map h)
 | [],_=>rfl
 | x::l,hs=>by
  rw [Zv];unfold zcp;rw [hs x (.head _),znz fun y hy=>hs y (.tail _ hy)];by_cases q:p x=true
  ·rw [if_pos q,List.filter_cons_of_pos q];rfl
  ·rw [if_neg q,List.filter_cons_of_neg q]
theorem zsg {α:Type} {elt:E} {t:Tg} {it:It'} {nt:Nat} {fr:List Nat} {c:EO} {ρ:Rho} {l:List α} {g h:α->D} {p:α->Bool} (hI:evW Γ it ρ=some (l.map g)) (hz:l.length<=PySem.sizeLine) (ht:tgOk nt t=true) (hs:∀ x∈l,zsv Γ elt t nt fr c ρ (g x)=some (if p x=true then some (h x) else none)) :
  ev Γ (.comp elt t it nt fr c) ρ=some (.new ((l.filter p).map h)):=by
 rw [zxu,hI,Yd,if_pos ⟨by rw [Zd];exact hz,ht⟩,znz hs];rfl
noncomputable abbrev ycr:E:=(.comp (.var 1) (.name 1) (.seqV 0) 2 [3] (.som (.cmp .notin (.var 1) (.var 2))))
theorem zyd {R S:List (Rat×Rat)} (hR:∀ q∈R,q∈S) (hl:R.length<=1000) {a b c d e f:Option D}:ev Γ ycr [some (.lst (R.map stD)),a,b,some (.lst (S.map stD)),c,d,e,f]=some (.new []):=by
 have:=zsg (Γ:=Γ) (elt:=.var 1) (t:=.name 1) (it:=.seqV 0) (nt:=2) (fr:=[3]) (c:=.som (.cmp .notin (.var 1) (.var 2))) (ρ:=[some (.lst (R.map stD)),a,b,some (.lst (S.map stD)),c,d,e,f]) (l:=R) (g:=stD) (h:=stD) (p:=fun _=>false) ?_ (by rw [Yr];omega) rfl fun q hq=>?_
 ·have e:R.filter (fun _=>false)=[]:=List.filter_eq_nil_iff.mpr fun _ _=>Zw
  rw [e] at this;exact this
 ·generalize R.map stD=LL;generalize S.map stD=SS;walk_at "evh"
 ·have h:cmpD .notin (stD q) (.lst (S.map stD))=some false:=by
   rw [yfl,if_pos (by rw [zsd];rfl)];have:(S.map stD).any (fun y=>eqD y (stD q))=true:=List.any_eq_true.mpr ⟨stD q,Z6 (hR q hq),zld 50 _ rfl⟩
   rw [this];rfl
  rw [if_neg Zw];generalize R.map stD=LL;generalize S.map stD=SS at *;generalize stD q=Q at *;walk_at "evh"
noncomputable abbrev zfb:List (Nat×(List D->Option W)):=[(33,zcs),(73,zgh),(85,mSA)]
noncomputable def zdm:List D->Option W:=run (tab zfb) zap 8
theorem ok_law_right_k18 (h33:Γ 33=zcs) (h73:Γ 73=zgh) (h85:Γ 85=mSA):∀ ds w,ds.length=3->zdm ds=some w->run Γ zap 8 ds=some w:=fun ds w _ h=>zcb zfb (by
 intro p hp;rcases Zi.mp hp with rfl | hp;exact h33
 rcases Zi.mp hp with rfl | hp;exact h73
 rcases Zt.mp hp with rfl;exact h85) (by decide) ds w h
theorem zox {φ σ:List D->Option W} (h33:Γ 33=φ) (h85:Γ 85=σ) {F L1 L2' S:List D} {c4 c5 c6 c7:Option B} (i1:φ [.lst F]=some (.val (.bl true))) (k:forN (B5 (.tup [4,5])) (exs Γ zfp) L1 [some (.sh (.lst F)),some (.sh (.lst L1)),some (.sh (.lst L2')),some (.ow []),none,none,none,none]=some (.nx [some (.sh (.lst F)),some (.sh (.lst L1)),some (.sh (.lst L2')),some (.ow S),c4,c5,c6,c7]))
  (hc:ev Γ ycr [some (.lst F),some (.lst L1),some (.lst L2'),some (.lst S),c4.map B.d,c5.map B.d,c6.map B.d,c7.map B.d]=some (.new [])) (s1:σ [.lst F,.lst L1,.lst L2']=some (.val (.bl true))) :
  run Γ zap 8 [.lst F,.lst L1,.lst L2']=some (.val (.bl true)):=by
 show run Γ (.cons (.iff (.not (.call 33 (.cons (.var 0) .nil))) (.cons (.ret (.bl false)) .nil) .nil) (.cons (.asg 3 (.lst .nil)) (.cons (.frr (.tup [4,5]) (.seqV 1) zfp) (.cons (.ret (.and (.cmp .eq ycr (.lst .nil)) (.call 85 (.cons (.var 0) (.cons (.var 1) (.cons (.var 2) .nil)))))) .nil)))) 8 _=_;have cn:cmpD .eq (.lst []) (.lst [])=some true:=rfl;generalize zfp=bd at *;generalize ycr=ce at *;walk_at "evh"
theorem zoy {l r:List (Rat×Rat)} (hl:IsShp l) (nl:l.Nodup) (hr:IsShp r) (nr:r.Nodup) (zl:SzL 64 l) (zr:SzL 64 r) (ll:l.length<=400) (rl:r.length<=400):zdm [.lst ((sumL l r).map stD),.lst (l.map stD),.lst (r.map stD)]=some (.val (.bl true)):=by
 have l3:=hl.three;have r3:=hr.three;have i1:=znp (zme hl nl hr nr) (ydw (by omega) (by omega) zl zr) (by decide) (Y3 (zot l r) (by omega));have s1:=sa_int hl nl hr nr zl zr ll rl;have Rl:=zot l r;have mem:∀ q∈sumL l r,q∈allS l r:=fun q hq=>by
  refine vm (zux (by omega) (by omega) hq) fun u hu v hv e=>?_;exact List.mem_flatMap.mpr ⟨u,hu,Zz.mpr ⟨v,hv,e.symm⟩⟩
 unfold zdm;generalize hΓ:tab zfb=Γ;have h33:Γ 33=zcs:=by rw [<- hΓ];rfl
 have h73:Γ 73=zgh:=by rw [<- hΓ];rfl
 have h85:Γ 85=mSA:=by rw [<- hΓ];rfl
 refine vt (zqy h73 (F:=(sumL l r).map stD) (L1:=l.map stD) zr rl l [] none none none none zl (by rw [Yb];omega)) fun c4 c5 c6 c7 k=>?_;rw [Wb] at k;exact zox h33 h85 i1 k (zyd mem (by omega)) s1
end
open Sf Mg
noncomputable def mir (q:Rat×Rat):Rat×Rat:=(3-q.1,0-q.2)
theorem oR_mir (a b c:Rat×Rat):oR (mir a) (mir b) (mir c)=oR a b c:=by unfold oR mir;grind
theorem zwo (q:Rat×Rat):mir (mir q)=q:=by
 unfold mir;exact W5 (by dsimp only;grind) (by dsimp only;grind)
theorem zwf {l:List (Rat×Rat)} (nd:l.Nodup):(l.map mir).Nodup:=by
 refine Vo.mpr (Wy.mpr (List.Pairwise.imp (fun {a b} h e=>h ?_) (Vo.mp nd)));rw [<- zwo a,e,zwo]
theorem ycp {l:List (Rat×Rat)} (hS:IsShp l):∀ k a b c,(l.map mir)[(k+(l.map mir).length-1)%(l.map mir).length]? = some a->(l.map mir)[k]? = some b->c∈l.map mir->c≠a->c≠b->0<oR a b c:=fun k a b c ha hb hc na nb=>by
 rw [Zd,Zk] at ha;rw [Zk] at hb;refine xa (Zb.mp ha) fun x hx e=>?_;refine xa (Zb.mp hb) fun y hy e2=>?_;refine xa (Zz.mp hc) fun z hz e3=>?_;rw [<- e,<- e2,<- e3,oR_mir];exact hS.conv k x y z hx hy hz (fun q=>na (by rw [<- e3,q,e])) fun q=>nb (by rw [<- e3,q,e2])
theorem zwn {l:List (Rat×Rat)} (hS:IsShp l) (nd:l.Nodup) {k:Nat} (F:Fst (l.map mir) k):IsShp (rot (l.map mir) k)/\(rot (l.map mir) k).Nodup:=by
 refine⟨IsShp.of_rot (by rw [Zd];exact hS.three) (ycp hS) F,?_⟩
 unfold rot;exact (List.perm_append_comm.nodup_iff).mpr (by rw [Kj];exact zwf nd)
open Sf Mg
noncomputable def zbn (q:Rat×Rat):Bool:=decide (q.1.den=1) && decide (q.2.den=1)
theorem zvl {x:Rat} (h:x.den=1):x=(x.num:Rat):=Rat.ext (Vj _).symm (by rw [h,Rat.den_intCast])
theorem nat1 {x:Rat} (h:x.den=1) (c:Int):((c:Rat)-x).num=c-x.num/\((c:Rat)-x).den=1:=by
 have e:(c:Rat)-x=((c-x.num:Int):Rat):=by rw [Qo,<- zvl h]
 rw [e];exact⟨Vj _,Rat.den_intCast _⟩
theorem bw {q:Rat×Rat} (h:zbn q=true):q.1.den=1/\q.2.den=1:=by
 unfold zbn at h;rw [Zm] at h;exact⟨of_decide_eq_true h.1,of_decide_eq_true h.2⟩
theorem mir_d {q:Rat×Rat} (h:zbn q=true):stD (mir q)=.tup [.tup [.int (3-q.1.num),.int 1],.tup [.int (0-q.2.num),.int 1]]:=by
 refine xg (bw h) fun h1 h2=>?_;refine xg (nat1 h1 3) fun a1 a2=>?_;refine xg (nat1 h2 0) fun b1 b2=>?_;unfold stD mir fr;show D.tup [.tup [.int ((3:Rat)-q.1).num,.int (((3:Rat)-q.1).den:Int)],.tup [.int ((0:Rat)-q.2).num,.int (((0:Rat)-q.2).den:Int)]]=_;rw [show (3:Rat)=((3:Int):Rat) from rfl,show (0:Rat)=((0:Int):Rat) from rfl,a1,a2,b1,b2];rfl
theorem mir_w {q:Rat×Rat} (h:zbn q=true):zbn (mir q)=true:=by
 refine xg (bw h) fun h1 h2=>?_;unfold zbn mir;rw [Zm];exact⟨decide_eq_true (nat1 h1 3).2,decide_eq_true (nat1 h2 0).2⟩
theorem lt4_w (a b c d:Int):lt4 (a,1,b,1) (c,1,d,1)=decide (a<c\/a=c/\b<d):=by
 unfold lt4 lt2 fstD;by_cases e:a=c
 ·subst e;by_cases e2:b=d
  ·subst e2;simp
  ·simp [e2]
 ·simp [e]
theorem zws {p q:Rat×Rat} (hp:zbn p=true) (hq:zbn q=true):ltN (stD p) (stD q)=true↔ltR p q:=by
 refine xg (bw hp) fun p1 p2=>?_;refine xg (bw hq) fun q1 q2=>?_;have e:ltN (stD p) (stD q)=lt4 (p.1.num,(p.1.den:Int),p.2.num,(p.2.den:Int)) (q.1.num,(q.1.den:Int),q.2.num,(q.2.den:Int)):=rfl;rw [e,p1,p2,q1,q2];rw [show ((1:Nat):Int)=1 from rfl,lt4_w,decide_eq_true_iff];unfold ltR;rw [zvl p1,zvl p2,zvl q1,zvl q2,Wz,Wz,Rat.intCast_inj];simp only [Vj]
theorem argB {bt:Nat->Nat->Bool} {k n:Nat} (h1:∀ j,j<=n->j≠k->bt k j=true) (h2:∀ j,j<=n->j≠k->bt j k=false):∀ m,m<=n->(m<k->PySem.argBest bt m<=m)/\(k<=m->PySem.argBest bt m=k)
 | 0,_=>⟨fun _=>Zh _,fun h=>by show 0=k;omega⟩
 | m+1,hm=>by
  refine xg (argB h1 h2 m (by omega)) fun a b=>?_;unfold PySem.argBest;by_cases e:k<=m
  ·rw [b e,h2 (m+1) hm (by omega)];exact⟨fun h=>by omega,fun _=>rfl⟩
  ·by_cases e2:k=m+1
   ·have:=a (by omega)
    rw [<- e2,h1 _ (by omega) (by omega)];exact⟨fun h=>by omega,fun _=>rfl⟩
   ·have:=a (by omega)
    refine⟨fun _=>?_,fun h=>by omega⟩
    split
    ·exact Zh _
    ·omega
theorem st_inj {a b:Rat×Rat} (h:eqD (stD a) (stD b)=true):a=b:=by
 unfold stD fr at h;simp only [eqD,eqL,Zm,beq_iff_eq,and_true] at h;exact W5 (Rat.ext h.1.1 (by have:=h.1.2;omega)) (Rat.ext h.2.1 (by have:=h.2.2;omega))
theorem ybs {l:List (Rat×Rat)} {k:Nat} (hw:∀ q∈l,zbn q=true) (F:Fst l k):minN (l.map stD)=some (stD (l.getD k (0,0))):=by
 have all:((l.map stD).all fun d=>(nst d).isSome)=true:=U3.mpr fun d hd=>by
  refine xa (Zz.mp hd) fun q _ e=>?_;rw [<- e];rfl
 unfold minN;rw [if_pos all];have g:∀ i,i<l.length->(l.map stD).getD i .non=stD (l.getD i (0,0)):=fun i hi=>by
  rw [Z0,Zk,Z0,Ze hi];rfl
 have gm:∀ i,i<l.length->l[i]? = some (l.getD i (0,0)):=fun i hi=>by
  rw [Z0,Ze hi];rfl
 have lk:=F.lt;have wk:∀ i,i<l.length->zbn (l.getD i (0,0))=true:=fun i hi=>hw _ (Zn (gm i hi))
 have e:zth (l.map stD)=k:=by
  unfold zth;rw [Zd];refine (argB (n:=l.length-1) (fun j hj ne=>?_) (fun j hj ne=>?_) (l.length-1) (Zh _)).2 (by omega)
  ·show ltN _ _=true;rw [g k lk,g j (by omega)];exact (zws (wk k lk) (wk j (by omega))).mpr (F.low j _ _ ne (gm k lk) (gm j (by omega)))
  ·show ltN _ _=false;rw [g k lk,g j (by omega)];refine Bool.eq_false_iff.mpr fun z=>?_;have z:=(zws (wk j (by omega)) (wk k lk)).mp z;exact zwr _ (zic z (F.low j _ _ ne (gm k lk) (gm j (by omega))))
 rw [e,Zk,gm k lk];rfl
theorem idx_at {l:List (Rat×Rat)} {k:Nat} (nd:l.Nodup) (hk:k<l.length):idxW (.lst (l.map stD)) (stD (l.getD k (0,0)))=some (.val (.int (k:Int))):=by
 have gk:l.getD k (0,0)=l[k]:=by rw [Z0,Ze hk];rfl
 have h:idxD (l.map stD) (stD (l.getD k (0,0)))=some k:=by
  unfold idxD;rw [zsd,if_pos (show (true && dOk 50 (stD (l.getD k (0,0))))=true from rfl)];refine Uj.mpr ⟨by rw [Zd];exact hk,?_,fun j hj=>?_⟩
  ·rw [U2,gk];exact zld 50 _ rfl
  ·rw [U2,gk];intro z;have:=st_inj z
   have:=(Qz (h₀:=by omega) (h₁:=hk) nd).mp this
   omega
 show (idxD _ _).map _=_;rw [h];rfl
open Sf Mg
noncomputable abbrev eltM:E:=(.tup (.cons (.tup (.cons (.bin .sub (.int 3) (.ix (.var 1) (.int 0))) (.cons (.int 1) .nil))) (.cons (.tup (.cons (.bin .sub (.int 0) (.ix (.var 2) (.int 0))) (.cons (.int 1) .nil))) .nil)))
noncomputable abbrev tstM:EO:=(.som (.and (.cmp .eq (.ix (.var 1) (.int 1)) (.int 1)) (.cmp .eq (.ix (.var 2) (.int 1)) (.int 1))))
noncomputable abbrev zpu:E:=(.comp eltM (.tup [1,2]) (.seqV 1) 3 [] tstM)
section
variable {Γ:Nat->List D->Option W}
theorem stepM {n1 d1 n2 d2:Int} {ρ:Rho}:zsv Γ eltM (.tup [1,2]) 3 [] tstM ρ (.tup [.tup [.int n1,.int d1],.tup [.int n2,.int d2]])=some (if (decide (d1=1) && decide (d2=1))=true then some (.tup [.tup [.int (3-n1),.int 1],.tup [.int (0-n2),.int 1]]) else none):=by
 by_cases c1:d1=1
 ·by_cases c2:d2=1
  ·subst c1;subst c2;walk_at "evh"
  ·have c2:(d2=1)=False:=eq_false c2;subst c1;walk_at "evh"
 ·have c1:(d1=1)=False:=eq_false c1;walk_at "evh"
theorem zye {l:List (Rat×Rat)} (hl:l.length<=1000) {a b c d e f g:Option D}:ev Γ zpu [a,some (.lst (l.map stD)),b,c,d,e,f,g]=some (.new ((l.filter zbn).map fun q=>stD (mir q))):=by
 refine zsg (g:=stD) (h:=fun q=>stD (mir q)) (p:=zbn) ?_ (by rw [Yr];omega) rfl fun q hq=>?_
 ·generalize l.map stD=LL;walk_at "evh"
 ·have e:stD q=.tup [.tup [.int q.1.num,.int (q.1.den:Int)],.tup [.int q.2.num,.int (q.2.den:Int)]]:=rfl;rw [e,stepM];congr 1
  have e2:(decide ((q.1.den:Int)=1) && decide ((q.2.den:Int)=1))=zbn q:=by
   unfold zbn;congr 1
   ·exact decide_eq_decide.mpr (by omega)
   ·exact decide_eq_decide.mpr (by omega)
  rw [e2];by_cases h:zbn q=true
  ·rw [if_pos h,if_pos h,mir_d h]
  ·rw [if_neg h,if_neg h]
noncomputable abbrev zmw:Ss:=(.cons (.asg 5 (.lst (.cons (.lcp (.var 1)) (.cons (.lcp (.var 2)) .nil)))) (.cons (.asg 6 (.call 82 (.cons (.ix (.var 5) (.int 0)) (.cons (.ix (.var 5) (.int 1)) .nil)))) (.cons (.asg 7 (.lcp (.var 6))) (.cons (.iff (.or (.not (.call 35 (.cons (.var 6) (.cons (.var 1) (.cons (.var 2) .nil))))) (.cmp .ne (.var 5) (.lst (.cons (.var 1) (.cons (.var 2) .nil))))) (.cons (.ret (.bl false)) .nil) .nil) (.cons (.clr 6) (.cons (.ret (.and (.cmp .eq (.call 82 (.cons (.ix (.var 5) (.int 0)) (.cons (.ix (.var 5) (.int 1)) .nil))) (.var 7)) (.cmp .eq (.var 5) (.lst (.cons (.var 1) (.cons (.var 2) .nil)))))) .nil))))))
theorem ztf {Su Ri:List D->Option W} (h82:Γ 82=Su) (h35:Γ 35=Ri) {NS:D} {L M F:List D} {c3 c4:Option B} (su:Su [.lst L,.lst M]=some (.new F)) (ri:Ri [.lst F,.lst L,.lst M]=some (.val (.bl true)))
  (e1:cmpD .ne (.lst [.lst L,.lst M]) (.lst [.lst L,.lst M])=some false) (e2:cmpD .eq (.lst [.lst L,.lst M]) (.lst [.lst L,.lst M])=some true) (e3:cmpD .eq (.lst F) (.lst F)=some true) (lL:lfL L=true) (lM:lfL M=true) (lF:lfL F=true) :
  exs Γ zmw [some (.sh NS),some (.ow L),some (.ow M),c3,c4,none,none,none]=some (.rt (.val (.bl true))):=by
 obtain⟨d3,d4,fz⟩:∃ d3 d4,frz [some (.sh NS),some (.ow L),some (.ow M),c3,c4,none,none,none]=[some (.sh NS),some (.sh (.lst L)),some (.sh (.lst M)),d3,d4,none,none,none]:=⟨_,_,rfl⟩
 unfold zmw;walk_at "evh"
noncomputable abbrev midA:S:=(.iff (.cmp .eq (.bin .mod (.call 2 (.cons (.var 0) (.cons (.int 0) .nil))) (.int 8)) (.int 1)) (.cons (.asg 2 (.lcp (.var 1))) .nil) .nil)
noncomputable abbrev setO:Ss:=(.cons (.asg 4 (.idx (.var 3) (.bi .min (.cons (.var 3) .nil)))) (.cons (.asg 2 (.bin .add (.sl (.var 3) (.som (.var 4)) .non) (.sl (.var 3) .non (.som (.var 4))))) .nil))
noncomputable abbrev midB:S:=(.iff (.cmp .eq (.bin .mod (.call 2 (.cons (.var 0) (.cons (.int 0) .nil))) (.int 8)) (.int 3)) (.cons (.asg 3 zpu) (.cons (.iff (.cmp .eq (.bi .len (.cons (.var 3) .nil)) (.bi .len (.cons (.var 1) .nil))) setO .nil) .nil)) .nil)
noncomputable abbrev yex (rs:Ss):Ss:=(.cons (.asg 1 (.call 47 (.cons (.var 0) (.cons (.int 1) (.cons (.int 6) .nil))))) (.cons (.asg 2 (.call 47 (.cons (.var 0) (.cons (.int 20) (.cons (.int 6) .nil))))) (.cons midA (.cons midB rs))))
theorem zrj {A Ce:List D->Option W} (h47:Γ 47=A) (h2:Γ 2=Ce) {NS L M:List D} {c:Int} {rs:Ss} (s1:A [.lst NS,.int 1,.int 6]=some (.new L)) (s2:A [.lst NS,.int 20,.int 6]=some (.new M)) (ce:Ce [.lst NS,.int 0]=some (.val (.int c))) (lL:lfL L=true) (lM:lfL M=true)
  {o:Out} {ρ:RhoS} (k1:ex Γ midA [some (.sh (.lst NS)),some (.ow L),some (.ow M),none,none,none,none,none]=some (.nx ρ)) (k:yad Γ (ex Γ midB ρ) rs=some (.rt (.val (.bl true)))):run Γ (yex rs) 8 [.lst NS]=some (.val (.bl true)):=by
 unfold yex;generalize midA=a at *;generalize midB=b at *;walk_at "evh"
theorem midA_t {Ce:List D->Option W} (h2:Γ 2=Ce) {NS L M:List D} {c:Int} (ce:Ce [.lst NS,.int 0]=some (.val (.int c))) (lL:lfL L=true) (q:(c%8=1)=True):ex Γ midA [some (.sh (.lst NS)),some (.ow L),some (.ow M),none,none,none,none,none]=some (.nx [some (.sh (.lst NS)),some (.ow L),some (.ow L),none,none,none,none,none]):=by
 unfold midA;walk_at "evh"
theorem midA_f {Ce:List D->Option W} (h2:Γ 2=Ce) {NS L M:List D} {c:Int} (ce:Ce [.lst NS,.int 0]=some (.val (.int c))) (q:(c%8=1)=False):ex Γ midA [some (.sh (.lst NS)),some (.ow L),some (.ow M),none,none,none,none,none]=some (.nx [some (.sh (.lst NS)),some (.ow L),some (.ow M),none,none,none,none,none]):=by
 unfold midA;walk_at "evh"
theorem yep {Ce:List D->Option W} (h2:Γ 2=Ce) {NS L M:List D} {c:Int} (ce:Ce [.lst NS,.int 0]=some (.val (.int c))) (q:(c%8=3)=False):ex Γ midB [some (.sh (.lst NS)),some (.ow L),some (.ow M),none,none,none,none,none]=some (.nx [some (.sh (.lst NS)),some (.ow L),some (.ow M),none,none,none,none,none]):=by
 unfold midB;generalize zpu=ce at *;generalize setO=so at *;walk_at "evh"
theorem midB_n {Ce:List D->Option W} (h2:Γ 2=Ce) {NS L M R:List D} {c:Int} (ce:Ce [.lst NS,.int 0]=some (.val (.int c))) (q:(c%8=3)=True) (hc:ev Γ zpu [some (.lst NS),some (.lst L),some (.lst M),none,none,none,none,none]=some (.new R)) (lR:lfL R=true) (e:((R.length:Int)=(L.length:Int))=False):ex Γ midB [some (.sh (.lst NS)),some (.ow L),some (.ow M),none,none,none,none,none]=some (.nx [some (.sh (.lst NS)),some (.ow L),some (.ow M),some (.ow R),none,none,none,none]):=by
 unfold midB;generalize zpu=ce at *;generalize setO=so at *;walk_at "evh"
theorem midB_y {Ce:List D->Option W} (h2:Γ 2=Ce) {NS L M R R1 R2:List D} {y:D} {c k:Int} (ce:Ce [.lst NS,.int 0]=some (.val (.int c))) (q:(c%8=3)=True) (hc:ev Γ zpu [some (.lst NS),some (.lst L),some (.lst M),none,none,none,none,none]=some (.new R)) (lR:lfL R=true) (e:((R.length:Int)=(L.length:Int))=True)
  (mn:minN R=some y) (ix:idxW (.lst R) y=some (.val (.int k))) (c1:cutD R (some k) none=R1) (c2:cutD R none (some k)=R2) (ad:opW .add (.lst R1) (.lst R2)=some (.new (R1++R2))) (l1:lfL R1=true) (l2:lfL R2=true) (l3:lfL (R1++R2)=true) (ly:lf y=true):ex Γ midB [some (.sh (.lst NS)),some (.ow L),some (.ow M),none,none,none,none,none]=some (.nx [some (.sh (.lst NS)),some (.ow L),some (.ow (R1++R2)),some (.ow R),some (.sh (.int k)),none,none,none]):=by
 unfold midB setO;generalize zpu=ce at *;walk_at "evh"
end
open Sf Mg
theorem zsc:∀ l:List (Rat×Rat),dOkL 48 (l.map stD)=true
 | []=>rfl
 | q::l=>by
  rw [Zv];unfold dOkL;rw [zsc l];rfl
theorem yds (l r:List (Rat×Rat)):cmpD .eq (.lst [.lst (l.map stD),.lst (r.map stD)]) (.lst [.lst (l.map stD),.lst (r.map stD)])=some true/\cmpD .ne (.lst [.lst (l.map stD),.lst (r.map stD)]) (.lst [.lst (l.map stD),.lst (r.map stD)])=some false:=by
 have d:dOkL 49 [.lst (l.map stD),.lst (r.map stD)]=true:=by
  simp only [dOkL,dOk,zsc,Ul]
 have e:eqO (.lst [.lst (l.map stD),.lst (r.map stD)]) (.lst [.lst (l.map stD),.lst (r.map stD)])=some true:=by
  show (if (dOkL 49 _ && dOkL 49 _)=true then some (eqL _ _) else none)=_;rw [d,if_pos (show (true && true)=true from rfl),eqL_self 49 _ d]
 exact⟨e,by show (eqO _ _).map not=_;rw [e];rfl⟩
theorem one_eq (l:List (Rat×Rat)):cmpD .eq (.lst (l.map stD)) (.lst (l.map stD))=some true:=by
 have d:=zsd l;show (if (dOkL 49 (l.map stD) && dOkL 49 (l.map stD))=true then some (eqL (l.map stD) (l.map stD)) else none)=_;rw [d,if_pos (show (true && true)=true from rfl),eqL_self 49 _ d]
theorem sz_mir {q:Rat×Rat} (h:zbn q=true) (z:Sz 62 q.1/\Sz 62 q.2):Sz 64 (mir q).1/\Sz 64 (mir q).2:=by
 refine xg (bw h) fun h1 h2=>?_;refine xg (nat1 h1 3) fun a1 a2=>?_;refine xg (nat1 h2 0) fun b1 b2=>?_;have e62:(2:Nat)^62=4611686018427387904:=by decide
 have e64:(2:Nat)^64=18446744073709551616:=by decide
 have t1:=z.1.t;have t2:=z.2.t;rw [e62] at t1 t2;refine⟨⟨?_,?_⟩,⟨?_,?_⟩⟩
 ·show ((3:Rat)-q.1).num.natAbs<_;rw [show (3:Rat)=((3:Int):Rat) from rfl,a1,e64];omega
 ·show ((3:Rat)-q.1).den<_;rw [show (3:Rat)=((3:Int):Rat) from rfl,a2];decide
 ·show ((0:Rat)-q.2).num.natAbs<_;rw [show (0:Rat)=((0:Int):Rat) from rfl,b1,e64];omega
 ·show ((0:Rat)-q.2).den<_;rw [show (0:Rat)=((0:Int):Rat) from rfl,b2];decide
section
variable {Γ:Nat->List D->Option W}
theorem yck (h82:Γ 82=zfh) (h35:Γ 35=zdm) {NS:D} {l r:List (Rat×Rat)} (hl:IsShp l) (nl:l.Nodup) (hr:IsShp r) (nr:r.Nodup) (zl:SzL 64 l) (zr:SzL 64 r) (ll:l.length<=400) (rl:r.length<=400) {c3 c4:Option B} :
  exs Γ zmw [some (.sh NS),some (.ow (l.map stD)),some (.ow (r.map stD)),c3,c4,none,none,none]=some (.rt (.val (.bl true))):=
 ztf h82 h35 (zst nl nr (by have:=hl.three;omega) (by have:=hr.three;omega) zl zr ll rl) (zoy hl nl hr nr zl zr ll rl) (yds l r).2 (yds l r).1 (one_eq _) (zay _) (zay _) (zay _)
theorem yif {l:List (Rat×Rat)} (h:(l.filter zbn).length=l.length):∀ q∈l,zbn q=true:=fun q hq=>by
 have e:=(Gq (p:=zbn) (l:=l)).eq_of_length h;rw [<- e] at hq;exact (Ji.mp hq).2
theorem law18 (h47:Γ 47=znk) (h2:Γ 2=zct) (h82:Γ 82=zfh) (h35:Γ 35=zdm) (ns:List Int) (hn:ns.length<=63):run Γ zcq 8 [.lst (ns.map D.int)]=some (.val (.bl true)):=by
 refine vh (zmo ns 1 6 (by decide) (by decide) (by decide)) fun l ps b f sh S hS=>?_;refine vh (zmo ns 20 6 (by decide) (by decide) (by decide)) fun r ps' b' f' sh' S' hS'=>?_;rw [show ((1:Nat):Int)=1 from rfl,show ((6:Nat):Int)=6 from rfl] at hS;rw [show ((20:Nat):Int)=20 from rfl,show ((6:Nat):Int)=6 from rfl] at hS';have ll:=S.small (by decide);have rl:=S'.small (by decide);refine xg S.shp fun shp nd=>?_;refine xg S'.shp fun shp' nd'=>?_;refine xb (zgx (ns:=ns) (k:=0)) fun c q0=>?_;rw [show ((0:Nat):Int)=0 from rfl] at q0;by_cases c1:c%8=1
 ·have k1:=midA_t h2 (M:=r.map stD) q0 (zay l) (eq_true c1);have k2:=yep h2 (L:=l.map stD) (M:=l.map stD) q0 (eq_false (show ¬ c%8=3 by omega));refine zrj h47 h2 (rs:=zmw) hS hS' q0 (zay _) (zay _) (o:=.nx []) k1 ?_;rw [k2];exact yck h82 h35 shp nd shp nd S.sz S.sz (by omega) (by omega)
 ·have k1:=midA_f h2 (L:=l.map stD) (M:=r.map stD) q0 (eq_false c1);refine zrj h47 h2 (rs:=zmw) hS hS' q0 (zay _) (zay _) (o:=.nx []) k1 ?_;by_cases c3:c%8=3
  ·have hc:=zye (Γ:=Γ) (l:=l) (by omega) (a:=some (.lst (ns.map D.int))) (b:=some (.lst (r.map stD))) (c:=none) (d:=none) (e:=none) (f:=none) (g:=none);have ec:((l.filter zbn).map fun q=>stD (mir q))=(((l.filter zbn).map mir).map stD):=by rw [W6];rfl
   rw [ec] at hc;by_cases e:(l.filter zbn).length=l.length
   ·have hw:=yif e;have ef:l.filter zbn=l:=(Gq (p:=zbn) (l:=l)).eq_of_length e;rw [ef] at hc;have l1:1<=l.length:=by have:=shp.three;omega
    have ml:(l.map mir).length=l.length:=Zd ..;have F1:=zww (zwf nd) (l.map mir).length 0 (Zh _) (by rw [ml];exact l1) (fun j hj _=>by rw [Js] at hj;exact absurd hj (Nat.not_lt_zero _));generalize low (l.map mir) (l.map mir).length 0=k at F1;have kl:k<l.length:=by have:=F1.lt;rw [ml] at this;exact this
    have mw:∀ q∈l.map mir,zbn q=true:=fun q hq=>by
     refine xa (Zz.mp hq) fun p hp e=>?_;rw [<- e];exact mir_w (hw p hp)
    have mz:SzL 64 (rot (l.map mir) k):=fun q hq=>by
     refine xa (Zz.mp (rot_mem.mp hq)) fun p hp e=>?_;rw [<- e];exact sz_mir (hw p hp) (S.sz62 p hp)
    refine xg (zwn shp nd F1) fun ms mn=>?_;have lR:((l.map mir).map stD).length=l.length:=by rw [Zd,ml]
    have er:(rot (l.map mir) k).map stD=((l.map mir).map stD).drop k++((l.map mir).map stD).take k:=by rw [ygv];rfl
    have k2:=midB_y h2 (L:=l.map stD) (M:=r.map stD) q0 (eq_true c3) hc (zay _) (eq_true (by rw [lR,Zd])) (ybs mw F1) (idx_at (zwf nd) F1.lt) (zpt (by rw [lR];omega)) (cutTo (by rw [lR];omega))
     (by show (if _ then _ else none)=_;rw [if_pos];rw [Ys,W4,lR,Yr];omega) (by rw [<- Ja];exact zay _) (by rw [<- Ui];exact zay _) (by rw [<- er];exact zay _) (yev _)
    rw [k2,<- er];exact yck h82 h35 shp nd ms mn S.sz mz (by omega) (by rw [zhs,ml];omega)
   ·have k2:=midB_n h2 (L:=l.map stD) (M:=r.map stD) q0 (eq_true c3) hc (zay _) (eq_false (by rw [Zd,Zd,Zd];omega));rw [k2];exact yck h82 h35 shp nd shp' nd' S.sz S'.sz (by omega) (by omega)
  ·have k2:=yep h2 (L:=l.map stD) (M:=r.map stD) q0 (eq_false c3);rw [k2];exact yck h82 h35 shp nd shp' nd' S.sz S'.sz (by omega) (by omega)
end
end DL
namespace LW
open DL
noncomputable def Γ:Nat → List D → Option W
 | 0=>zab
 | 1=>zan
 | 2=>zct
 | 3=>znj
 | 9=>zfi
 | 10=>zhz
 | 11=>zhx
 | 12=>zab
 | 13=>zan
 | 14=>znl
 | 28=>zfs
 | 29=>zby
 | 30=>zen
 | 31=>mWay
 | 32=>zdx
 | 33=>zcs
 | 34=>zdb
 | 35=>zdm
 | 40=>zhy
 | 41=>zek
 | 42=>zel
 | 43=>zpf
 | 45=>zfg
 | 46=>zpe
 | 47=>znk
 | 67=>zft
 | 73=>zgh
 | 81=>zib
 | 82=>zfh
 | 83=>znm
 | 84=>zia
 | 85=>mSA
 | _=>fun _=>none
theorem ok_law_turn_k13:∀ ds w,ds.length=3 → Γ 45 ds=some w → run Γ zau 4 ds=some w:=by apply DL.ok_law_turn_k13 <;> rfl
theorem ok_law_ring_k13:∀ ds w,ds.length=1 → Γ 46 ds=some w → run Γ zav 5 ds=some w:=by apply DL.ok_law_ring_k13 <;> rfl
theorem ok_law_block:∀ ds w,ds.length=2 → Γ 28 ds=some w → run Γ zbg 4 ds=some w:=by apply DL.ok_law_block <;> rfl
theorem ok_law_mixed:∀ ds w,ds.length=2 → Γ 29 ds=some w → run Γ zae 4 ds=some w:=by apply DL.ok_law_mixed <;> rfl
theorem ok_law_points_k14:∀ ds w,ds.length=3 → Γ 34 ds=some w → run Γ zbp 10 ds=some w:=by apply DL.ok_law_points_k14 <;> rfl
theorem ok_law_cell_at:∀ ds w,ds.length=2 → Γ 2 ds=some w → run Γ zbu 2 ds=some w:=by apply DL.ok_law_cell_at <;> rfl
theorem ok_law_divisor:∀ ds w,ds.length=2 → Γ 12 ds=some w → run Γ zbt 2 ds=some w:=by apply DL.ok_law_divisor <;> rfl
theorem ok_law_lowest:∀ ds w,ds.length=2 → Γ 13 ds=some w → run Γ zci 3 ds=some w:=by apply DL.ok_law_lowest <;> rfl
theorem ok_law_shape_k13:∀ ds w,ds.length=3 → Γ 47 ds=some w → run Γ B8 8 ds=some w:=by apply DL.ok_law_shape_k13 <;> rfl
theorem ok_steps:∀ ds w,ds.length=1 → Γ 41 ds=some w → run Γ zis 1 ds=some w:=by apply DL.ok_steps <;> rfl
theorem ok_divisor:∀ ds w,ds.length=2 → Γ 0 ds=some w → run Γ zey 5 ds=some w:=by apply DL.ok_divisor <;> rfl
theorem ok_plus:∀ ds w,ds.length=2 → Γ 9 ds=some w → run Γ zsj 5 ds=some w:=by apply DL.ok_plus <;> rfl
theorem ok_minus:∀ ds w,ds.length=2 → Γ 10 ds=some w → run Γ zls 2 ds=some w:=by apply DL.ok_minus <;> rfl
theorem ok_ratio:∀ ds w,ds.length=2 → Γ 1 ds=some w → run Γ zlr 3 ds=some w:=by apply DL.ok_ratio <;> rfl
theorem ok_times:∀ ds w,ds.length=2 → Γ 11 ds=some w → run Γ zlq 2 ds=some w:=by apply DL.ok_times <;> rfl
theorem ok_lowest_whole:∀ ds w,ds.length=1 → Γ 43 ds=some w → run Γ zak 6 ds=some w:=by apply DL.ok_lowest_whole <;> rfl
theorem ok_side_between:∀ ds w,ds.length=2 → Γ 42 ds=some w → run Γ zat 5 ds=some w:=by apply DL.ok_side_between <;> rfl
theorem ok_sides_of:∀ ds w,ds.length=1 → Γ 40 ds=some w → run Γ zbv 1 ds=some w:=by apply DL.ok_sides_of <;> rfl
theorem ok_added:∀ ds w,ds.length=2 → Γ 67 ds=some w → run Γ ziu 2 ds=some w:=by apply DL.ok_added <;> rfl
theorem ok_cross:∀ ds w,ds.length=2 → Γ 81 ds=some w → run Γ zit 2 ds=some w:=by apply DL.ok_cross <;> rfl
theorem ok_next_bend:∀ ds w,ds.length=2 → Γ 83 ds=some w → run Γ zad 2 ds=some w:=by apply DL.ok_next_bend <;> rfl
theorem ok_summed:∀ ds w,ds.length=2 → Γ 82 ds=some w → run Γ zex 8 ds=some w:=by apply DL.ok_summed <;> rfl
theorem ok_law_whole:∀ ds w,ds.length=1 → Γ 3 ds=some w → run Γ zcx 1 ds=some w:=by apply DL.ok_law_whole <;> rfl
theorem ok_law_is_fraction:∀ ds w,ds.length=1 → Γ 14 ds=some w → run Γ zar 1 ds=some w:=by apply DL.ok_law_is_fraction <;> rfl
theorem ok_law_flat_k11:∀ ds w,ds.length=1 → Γ 30 ds=some w → run Γ zaw 3 ds=some w:=by apply DL.ok_law_flat_k11 <;> rfl
theorem ok_law_before:∀ ds w,ds.length=2 → Γ 32 ds=some w → run Γ zbj 2 ds=some w:=by apply DL.ok_law_before <;> rfl
theorem ok_law_way_k11:∀ ds w,ds.length=3 → Γ 31 ds=some w → run Γ zaz 4 ds=some w:=by apply DL.ok_law_way_k11 <;> rfl
theorem ok_law_is_shape:∀ ds w,ds.length=1 → Γ 33 ds=some w → run Γ zal 5 ds=some w:=by apply DL.ok_law_is_shape <;> rfl
theorem ok_law_added:∀ ds w,ds.length=2 → Γ 73 ds=some w → run Γ zca 2 ds=some w:=by apply DL.ok_law_added <;> rfl
theorem ok_law_least_k18:∀ ds w,ds.length=3 → Γ 84 ds=some w → run Γ zaq 9 ds=some w:=by apply DL.ok_law_least_k18 <;> rfl
theorem ok_law_sides_add:∀ ds w,ds.length=3 → Γ 85 ds=some w → run Γ zao 9 ds=some w:=by apply DL.ok_law_sides_add <;> rfl
theorem ok_law_right_k18:∀ ds w,ds.length=3 → Γ 35 ds=some w → run Γ zap 8 ds=some w:=by apply DL.ok_law_right_k18 <;> rfl
theorem ybt:∀ ns:List Int,ns.length ≤ 63 → run Γ zcq 8 [.lst (ns.map D.int)]=some (.val (.bl true)):=by
 intro ns hn;apply DL.law18 <;> first | rfl | exact hn
end LW
namespace LW
open PySem L2 DL
noncomputable def top (i:Nat):Stmt:=PySem.Challenge.pw_snugfit_k18_whole_sum.main.body.getD i (.Pass ⟨0,0,0,0⟩)
theorem bnd1 {x:Str} {st:Stmt} {p0:Str} (h:∀ (kV doc pm:Value) (an:Option Addr) (cdv ct:Value) (a0:Value),bindArgs (PySem.W.fnOf x x (zcj st) (Bt st) (Bo st) .none kV doc pm an cdv ct) ⟨[a0],[]⟩=pure ([p0].zip [a0])):Bnd x st [p0]:=fun kV doc pm an cdv ct us hl=>by
 cases us with
 | nil=>cases hl
 | cons a0 r0=>
  cases r0 with
  | nil=>exact h kV doc pm an cdv ct a0
  | cons _ _=>cases hl
theorem bnd2 {x:Str} {st:Stmt} {p0 p1:Str} (h:∀ (kV doc pm:Value) (an:Option Addr) (cdv ct:Value) (a0 a1:Value),bindArgs (PySem.W.fnOf x x (zcj st) (Bt st) (Bo st) .none kV doc pm an cdv ct) ⟨[a0,a1],[]⟩=pure ([p0,p1].zip [a0,a1])):Bnd x st [p0,p1]:=fun kV doc pm an cdv ct us hl=>by
 cases us with
 | nil=>cases hl
 | cons a0 r0=>
  cases r0 with
  | nil=>cases hl
  | cons a1 r1=>
   cases r1 with
   | nil=>exact h kV doc pm an cdv ct a0 a1
   | cons _ _=>cases hl
theorem bnd3 {x:Str} {st:Stmt} {p0 p1 p2:Str} (h:∀ (kV doc pm:Value) (an:Option Addr) (cdv ct:Value) (a0 a1 a2:Value),bindArgs (PySem.W.fnOf x x (zcj st) (Bt st) (Bo st) .none kV doc pm an cdv ct) ⟨[a0,a1,a2],[]⟩=pure ([p0,p1,p2].zip [a0,a1,a2])):Bnd x st [p0,p1,p2]:=fun kV doc pm an cdv ct us hl=>by
 cases us with
 | nil=>cases hl
 | cons a0 r0=>
  cases r0 with
  | nil=>cases hl
  | cons a1 r1=>
   cases r1 with
   | nil=>cases hl
   | cons a2 r2=>
    cases r2 with
    | nil=>exact h kV doc pm an cdv ct a0 a1 a2
    | cons _ _=>cases hl
theorem zho:FnScope ["_law_one", "_law_two", "_law_three", "_law_found"] ["_law_one", "_law_two", "_law_three"] (Bo (top 28)):=⟨rfl,rfl,rfl,by decide +kernel,rfl,by decide +kernel,by decide +kernel⟩
theorem zin:Bnd "_law_turn" (top 28) ["_law_one", "_law_two", "_law_three"]:=bnd3 fun _ _ _ _ _ _ _ _ _=>rfl
theorem zhp:FnScope ["_law_points_here", "_law_found", "_law_row", "_law_part", "_law_point"] ["_law_points_here"] (Bo (top 29)):=⟨rfl,rfl,rfl,by decide +kernel,rfl,by decide +kernel,by decide +kernel⟩
theorem zio:Bnd "_law_ring" (top 29) ["_law_points_here"]:=bnd1 fun _ _ _ _ _ _ _=>rfl
theorem zmt:FnScope ["_law_script", "_law_k", "_law_cell", "_law_j"] ["_law_script", "_law_k"] (Bo (top 22)):=⟨rfl,rfl,rfl,by decide +kernel,rfl,by decide +kernel,by decide +kernel⟩
theorem zol:Bnd "_law_block" (top 22) ["_law_script", "_law_k"]:=bnd2 fun _ _ _ _ _ _ _ _=>rfl
theorem zms:FnScope ["_law_script", "_law_k", "_law_cell", "_law_number"] ["_law_script", "_law_k"] (Bo (top 23)):=⟨rfl,rfl,rfl,by decide +kernel,rfl,by decide +kernel,by decide +kernel⟩
theorem zok:Bnd "_law_mixed" (top 23) ["_law_script", "_law_k"]:=bnd2 fun _ _ _ _ _ _ _ _=>rfl
theorem zfc:FnScope ["_law_script", "_law_start", "_law_most", "_law_way_here", "_law_found", "_law_k", "_law_number", "_law_point", "_law_x", "_law_y"] ["_law_script", "_law_start", "_law_most"] (Bo (top 27)):=⟨rfl,rfl,rfl,by decide +kernel,rfl,by decide +kernel,by decide +kernel⟩
theorem zfq:Bnd "_law_points" (top 27) ["_law_script", "_law_start", "_law_most"]:=bnd3 fun _ _ _ _ _ _ _ _ _=>rfl
theorem zjc:FnScope ["_law_script", "_law_k"] ["_law_script", "_law_k"] (Bo (top 20)):=⟨rfl,rfl,rfl,by decide +kernel,rfl,by decide +kernel,by decide +kernel⟩
theorem zjg:Bnd "_law_cell_at" (top 20) ["_law_script", "_law_k"]:=bnd2 fun _ _ _ _ _ _ _ _=>rfl
theorem zjb:FnScope ["_law_one", "_law_other"] ["_law_one", "_law_other"] (Bo (top 24)):=⟨rfl,rfl,rfl,by decide +kernel,rfl,by decide +kernel,by decide +kernel⟩
theorem zjf:Bnd "_law_divisor" (top 24) ["_law_one", "_law_other"]:=bnd2 fun _ _ _ _ _ _ _ _=>rfl
theorem zkg:FnScope ["_law_top", "_law_bottom", "_law_by"] ["_law_top", "_law_bottom"] (Bo (top 25)):=⟨rfl,rfl,rfl,by decide +kernel,rfl,by decide +kernel,by decide +kernel⟩
theorem zlo:Bnd "_law_lowest" (top 25) ["_law_top", "_law_bottom"]:=bnd2 fun _ _ _ _ _ _ _ _=>rfl
theorem zge:FnScope ["_law_script", "_law_start", "_law_most", "_law_ring_here", "_law_number", "_law_share", "_law_by", "_law_far"] ["_law_script", "_law_start", "_law_most"] (Bo (top 30)):=⟨rfl,rfl,rfl,by decide +kernel,rfl,by decide +kernel,by decide +kernel⟩
theorem zgj:Bnd "_law_shape" (top 30) ["_law_script", "_law_start", "_law_most"]:=bnd3 fun _ _ _ _ _ _ _ _ _=>rfl
theorem yam:FnScope ["shape"] ["shape"] (Bo (top 11)):=⟨rfl,rfl,rfl,by decide +kernel,rfl,by decide +kernel,by decide +kernel⟩
theorem ydg:Bnd "steps" (top 11) ["shape"]:=bnd1 fun _ _ _ _ _ _ _=>rfl
theorem ztb:FnScope ["one", "other", "great", "small", "rest"] ["one", "other"] (Bo (top 4)):=⟨rfl,rfl,rfl,by decide +kernel,rfl,by decide +kernel,by decide +kernel⟩
theorem zty:Bnd "divisor" (top 4) ["one", "other"]:=bnd2 fun _ _ _ _ _ _ _ _=>rfl
theorem ygt:FnScope ["one", "other", "shared", "top", "rest"] ["one", "other"] (Bo (top 6)):=⟨rfl,rfl,rfl,by decide +kernel,rfl,by decide +kernel,by decide +kernel⟩
theorem ykk:Bnd "plus" (top 6) ["one", "other"]:=bnd2 fun _ _ _ _ _ _ _ _=>rfl
theorem yao:FnScope ["one", "other"] ["one", "other"] (Bo (top 7)):=⟨rfl,rfl,rfl,by decide +kernel,rfl,by decide +kernel,by decide +kernel⟩
theorem ydi:Bnd "minus" (top 7) ["one", "other"]:=bnd2 fun _ _ _ _ _ _ _ _=>rfl
theorem yan:FnScope ["top", "bottom", "shared"] ["top", "bottom"] (Bo (top 5)):=⟨rfl,rfl,rfl,by decide +kernel,rfl,by decide +kernel,by decide +kernel⟩
theorem ydh:Bnd "ratio" (top 5) ["top", "bottom"]:=bnd2 fun _ _ _ _ _ _ _ _=>rfl
theorem yal:FnScope ["one", "other"] ["one", "other"] (Bo (top 8)):=⟨rfl,rfl,rfl,by decide +kernel,rfl,by decide +kernel,by decide +kernel⟩
theorem ydf:Bnd "times" (top 8) ["one", "other"]:=bnd2 fun _ _ _ _ _ _ _ _=>rfl
theorem zhn:FnScope ["parts", "common", "part", "tops", "shared", "top"] ["parts"] (Bo (top 14)):=⟨rfl,rfl,rfl,by decide +kernel,rfl,by decide +kernel,by decide +kernel⟩
theorem zim:Bnd "lowest_whole" (top 14) ["parts"]:=bnd1 fun _ _ _ _ _ _ _=>rfl
theorem zhm:FnScope ["start", "end", "a", "b", "c"] ["start", "end"] (Bo (top 12)):=⟨rfl,rfl,rfl,by decide +kernel,rfl,by decide +kernel,by decide +kernel⟩
theorem zil:Bnd "side_between" (top 12) ["start", "end"]:=bnd2 fun _ _ _ _ _ _ _ _=>rfl
theorem zov:FnScope ["shape"] ["shape"] (Bo (top 10)):=⟨rfl,rfl,rfl,by decide +kernel,rfl,by decide +kernel,by decide +kernel⟩
theorem zpw:Bnd "sides_of" (top 10) ["shape"]:=bnd1 fun _ _ _ _ _ _ _=>rfl
theorem yaq:FnScope ["one", "other"] ["one", "other"] (Bo (top 16)):=⟨rfl,rfl,rfl,by decide +kernel,rfl,by decide +kernel,by decide +kernel⟩
theorem ydk:Bnd "added" (top 16) ["one", "other"]:=bnd2 fun _ _ _ _ _ _ _ _=>rfl
theorem yap:FnScope ["side", "other"] ["side", "other"] (Bo (top 13)):=⟨rfl,rfl,rfl,by decide +kernel,rfl,by decide +kernel,by decide +kernel⟩
theorem ydj:Bnd "cross" (top 13) ["side", "other"]:=bnd2 fun _ _ _ _ _ _ _ _=>rfl
theorem zmq:FnScope ["sides", "others"] ["sides", "others"] (Bo (top 18)):=⟨rfl,rfl,rfl,by decide +kernel,rfl,by decide +kernel,by decide +kernel⟩
theorem zoi:Bnd "next_bend" (top 18) ["sides", "others"]:=bnd2 fun _ _ _ _ _ _ _ _=>rfl
theorem zvj:FnScope ["one", "other", "sides", "others", "corners", "i", "j", "bend"] ["one", "other"] (Bo (top 17)):=⟨rfl,rfl,rfl,by decide +kernel,rfl,by decide +kernel,by decide +kernel⟩
theorem zyy:Bnd "summed" (top 17) ["one", "other"]:=bnd2 fun _ _ _ _ _ _ _ _=>rfl
theorem zmr:FnScope ["_law_found"] ["_law_found"] (Bo (top 21)):=⟨rfl,rfl,rfl,by decide +kernel,rfl,by decide +kernel,by decide +kernel⟩
theorem zoj:Bnd "_law_whole" (top 21) ["_law_found"]:=bnd1 fun _ _ _ _ _ _ _=>rfl
theorem zef:FnScope ["_law_found"] ["_law_found"] (Bo (top 26)):=⟨rfl,rfl,rfl,by decide +kernel,rfl,by decide +kernel,by decide +kernel⟩
theorem zew:Bnd "_law_is_fraction" (top 26) ["_law_found"]:=bnd1 fun _ _ _ _ _ _ _=>rfl
theorem zhr:FnScope ["_law_spot", "_law_x", "_law_y"] ["_law_spot"] (Bo (top 31)):=⟨rfl,rfl,rfl,by decide +kernel,rfl,by decide +kernel,by decide +kernel⟩
theorem zir:Bnd "_law_flat" (top 31) ["_law_spot"]:=bnd1 fun _ _ _ _ _ _ _=>rfl
theorem zkh:FnScope ["_law_one", "_law_other"] ["_law_one", "_law_other"] (Bo (top 33)):=⟨rfl,rfl,rfl,by decide +kernel,rfl,by decide +kernel,by decide +kernel⟩
theorem zlp:Bnd "_law_before" (top 33) ["_law_one", "_law_other"]:=bnd2 fun _ _ _ _ _ _ _ _=>rfl
theorem zja:FnScope ["_law_one", "_law_two", "_law_three", "_law_found"] ["_law_one", "_law_two", "_law_three"] (Bo (top 32)):=⟨rfl,rfl,rfl,by decide +kernel,rfl,by decide +kernel,by decide +kernel⟩
theorem zje:Bnd "_law_way" (top 32) ["_law_one", "_law_two", "_law_three"]:=bnd3 fun _ _ _ _ _ _ _ _ _=>rfl
theorem zhq:FnScope ["_law_found", "_law_spot", "_law_corners", "_law_k", "_law_here"] ["_law_found"] (Bo (top 34)):=⟨rfl,rfl,rfl,by decide +kernel,rfl,by decide +kernel,by decide +kernel⟩
theorem ziq:Bnd "_law_is_shape" (top 34) ["_law_found"]:=bnd1 fun _ _ _ _ _ _ _=>rfl
theorem zmu:FnScope ["_law_one", "_law_other"] ["_law_one", "_law_other"] (Bo (top 35)):=⟨rfl,rfl,rfl,by decide +kernel,rfl,by decide +kernel,by decide +kernel⟩
theorem zom:Bnd "_law_added" (top 35) ["_law_one", "_law_other"]:=bnd2 fun _ _ _ _ _ _ _ _=>rfl
theorem zgg:FnScope ["_law_shape_here", "_law_a", "_law_b", "_law_found", "_law_spot", "_law_x", "_law_y", "_law_bottom", "_law_height"] ["_law_shape_here", "_law_a", "_law_b"] (Bo (top 36)):=⟨rfl,rfl,rfl,by decide +kernel,rfl,by decide +kernel,by decide +kernel⟩
theorem zgl:Bnd "_law_least" (top 36) ["_law_shape_here", "_law_a", "_law_b"]:=bnd3 fun _ _ _ _ _ _ _ _ _=>rfl
theorem zgd:FnScope ["_law_found", "_law_one", "_law_other", "_law_k", "_law_p", "_law_q", "_law_a", "_law_b", "_law_height"] ["_law_found", "_law_one", "_law_other"] (Bo (top 37)):=⟨rfl,rfl,rfl,by decide +kernel,rfl,by decide +kernel,by decide +kernel⟩
theorem zgi:Bnd "_law_sides_add" (top 37) ["_law_found", "_law_one", "_law_other"]:=bnd3 fun _ _ _ _ _ _ _ _ _=>rfl
theorem zgf:FnScope ["_law_found", "_law_one", "_law_other", "_law_sums", "_law_x", "_law_y", "_law_u", "_law_v"] ["_law_found", "_law_one", "_law_other"] (Bo (top 38)):=⟨rfl,rfl,rfl,by decide +kernel,rfl,by decide +kernel,by decide +kernel⟩
theorem zgk:Bnd "_law_right" (top 38) ["_law_found", "_law_one", "_law_other"]:=bnd3 fun _ _ _ _ _ _ _ _ _=>rfl
theorem zta:FnScope ["_law_script", "_law_one", "_law_other", "_law_ring_here", "_law_at", "_law_handed", "_law_found", "_law_kept"] ["_law_script"] (Bo (top 39)):=⟨rfl,rfl,rfl,by decide +kernel,rfl,by decide +kernel,by decide +kernel⟩
theorem ztx:Bnd "law" (top 39) ["_law_script"]:=bnd1 fun _ _ _ _ _ _ _=>rfl
theorem zhg:trSs 40 ⟨["_law_one", "_law_two", "_law_three", "_law_found"],Bo (top 28),[],[],false⟩ (Bt (top 28))=some zau:=by kernel_rfl
theorem zhh:trSs 40 ⟨["_law_points_here", "_law_found", "_law_row", "_law_part", "_law_point"],Bo (top 29),[("_law_turn", 45,3)],[],false⟩ (Bt (top 29))=some zav:=by kernel_rfl
theorem zmc:trSs 40 ⟨["_law_script", "_law_k", "_law_cell", "_law_j"],Bo (top 22),[],[],false⟩ (Bt (top 22))=some zbg:=by kernel_rfl
theorem zmb:trSs 40 ⟨["_law_script", "_law_k", "_law_cell", "_law_number"],Bo (top 23),[("_law_block", 28,2)],[],false⟩ (Bt (top 23))=some zae:=by kernel_rfl
theorem zfa:trSs 40 ⟨["_law_script", "_law_start", "_law_most", "_law_way_here", "_law_found", "_law_k", "_law_number", "_law_point", "_law_x", "_law_y"],Bo (top 27),[("_law_mixed", 29,2)],[],false⟩ (Bt (top 27))=some zbp:=by kernel_rfl
theorem ziz:trSs 40 ⟨["_law_script", "_law_k"],Bo (top 20),[],[],false⟩ (Bt (top 20))=some zbu:=by kernel_rfl
theorem ziy:trSs 40 ⟨["_law_one", "_law_other"],Bo (top 24),[],[],false⟩ (Bt (top 24))=some zbt:=by kernel_rfl
theorem zka:trSs 40 ⟨["_law_top", "_law_bottom", "_law_by"],Bo (top 25),[("_law_divisor", 12,2)],[],false⟩ (Bt (top 25))=some zci:=by kernel_rfl
theorem zga:trSs 40 ⟨["_law_script", "_law_start", "_law_most", "_law_ring_here", "_law_number", "_law_share", "_law_by", "_law_far"],Bo (top 30),[("_law_ring", 46,1),("_law_points", 34,3),("_law_mixed", 29,2),("_law_cell_at", 2,2),("_law_lowest", 13,2)],[],false⟩ (Bt (top 30))=some B8:=by kernel_rfl
theorem zzu:trSs 40 ⟨["shape"],Bo (top 11),[],[],false⟩ (Bt (top 11))=some zis:=by kernel_rfl
theorem zsr:trSs 40 ⟨["one", "other", "great", "small", "rest"],Bo (top 4),[],[],false⟩ (Bt (top 4))=some zey:=by kernel_rfl
theorem yfz:trSs 40 ⟨["one", "other", "shared", "top", "rest"],Bo (top 6),[("divisor", 0,2)],[],false⟩ (Bt (top 6))=some zsj:=by kernel_rfl
theorem zzw:trSs 40 ⟨["one", "other"],Bo (top 7),[("plus", 9,2)],[],false⟩ (Bt (top 7))=some zls:=by kernel_rfl
theorem zzv:trSs 40 ⟨["top", "bottom", "shared"],Bo (top 5),[("divisor", 0,2)],[],false⟩ (Bt (top 5))=some zlr:=by kernel_rfl
theorem zzt:trSs 40 ⟨["one", "other"],Bo (top 8),[("ratio", 1,2)],[],false⟩ (Bt (top 8))=some zlq:=by kernel_rfl
theorem zhf:trSs 40 ⟨["parts", "common", "part", "tops", "shared", "top"],Bo (top 14),[("divisor", 0,2)],[],false⟩ (Bt (top 14))=some zak:=by kernel_rfl
theorem zhe:trSs 40 ⟨["start", "end", "a", "b", "c"],Bo (top 12),[("minus", 10,2),("plus", 9,2),("times", 11,2),("lowest_whole", 43,1)],[],false⟩ (Bt (top 12))=some zat:=by kernel_rfl
theorem zor:trSs 40 ⟨["shape"],Bo (top 10),[("steps", 41,1),("side_between", 42,2)],[],false⟩ (Bt (top 10))=some zbv:=by kernel_rfl
theorem zzy:trSs 40 ⟨["one", "other"],Bo (top 16),[("plus", 9,2)],[],false⟩ (Bt (top 16))=some ziu:=by kernel_rfl
theorem zzx:trSs 40 ⟨["side", "other"],Bo (top 13),[],[],false⟩ (Bt (top 13))=some zit:=by kernel_rfl
theorem zlz:trSs 40 ⟨["sides", "others"],Bo (top 18),[("cross", 81,2)],[],false⟩ (Bt (top 18))=some zad:=by kernel_rfl
theorem zul:trSs 40 ⟨["one", "other", "sides", "others", "corners", "i", "j", "bend"],Bo (top 17),[("sides_of", 40,1),("added", 67,2),("next_bend", 83,2)],[],false⟩ (Bt (top 17))=some zex:=by kernel_rfl
theorem zma:trSs 40 ⟨["_law_found"],Bo (top 21),[],[],false⟩ (Bt (top 21))=some zcx:=by kernel_rfl
theorem zea:trSs 40 ⟨["_law_found"],Bo (top 26),[("_law_whole", 3,1),("_law_divisor", 12,2)],[],false⟩ (Bt (top 26))=some zar:=by kernel_rfl
theorem zhj:trSs 40 ⟨["_law_spot", "_law_x", "_law_y"],Bo (top 31),[],[],false⟩ (Bt (top 31))=some zaw:=by kernel_rfl
theorem zkb:trSs 40 ⟨["_law_one", "_law_other"],Bo (top 33),[],[],false⟩ (Bt (top 33))=some zbj:=by kernel_rfl
theorem zix:trSs 40 ⟨["_law_one", "_law_two", "_law_three", "_law_found"],Bo (top 32),[],[],false⟩ (Bt (top 32))=some zaz:=by kernel_rfl
theorem zhi:trSs 40 ⟨["_law_found", "_law_spot", "_law_corners", "_law_k", "_law_here"],Bo (top 34),[("_law_is_fraction", 14,1),("_law_flat", 30,1),("_law_before", 32,2),("_law_way", 31,3)],[],false⟩ (Bt (top 34))=some zal:=by kernel_rfl
theorem zmd:trSs 40 ⟨["_law_one", "_law_other"],Bo (top 35),[("_law_lowest", 13,2)],[],false⟩ (Bt (top 35))=some zca:=by kernel_rfl
theorem zgc:trSs 40 ⟨["_law_shape_here", "_law_a", "_law_b", "_law_found", "_law_spot", "_law_x", "_law_y", "_law_bottom", "_law_height"],Bo (top 36),[("_law_flat", 30,1),("_law_lowest", 13,2)],[],false⟩ (Bt (top 36))=some zaq:=by kernel_rfl
theorem zfz:trSs 40 ⟨["_law_found", "_law_one", "_law_other", "_law_k", "_law_p", "_law_q", "_law_a", "_law_b", "_law_height"],Bo (top 37),[("_law_flat", 30,1),("_law_lowest", 13,2),("_law_added", 73,2),("_law_least", 84,3)],[],false⟩ (Bt (top 37))=some zao:=by kernel_rfl
theorem zgb:trSs 40 ⟨["_law_found", "_law_one", "_law_other", "_law_sums", "_law_x", "_law_y", "_law_u", "_law_v"],Bo (top 38),[("_law_is_shape", 33,1),("_law_added", 73,2),("_law_sides_add", 85,3)],[],false⟩ (Bt (top 38))=some zap:=by kernel_rfl
theorem zsq:trSs 40 ⟨["_law_script", "_law_one", "_law_other", "_law_ring_here", "_law_at", "_law_handed", "_law_found", "_law_kept"],Bo (top 39),[("_law_shape", 47,3),("_law_cell_at", 2,2),("summed", 82,2),("_law_right", 35,3)],[],false⟩ (Bt (top 39))=some zcq:=by kernel_rfl
section
variable {P:Program} {w:World} {K:PySem.W.Frag} {h:Heap} {mg:Str → Option Value} {fa:Addr}
theorem all_mk (X:K.In h) (G:h.Ns mainGlobals mg) (hfa:mg "law" = some (.ref fa)) (A_law_turn_k13:At K "_law_turn" (top 28)) (A_law_ring_k13:At K "_law_ring" (top 29)) (A_law_block:At K "_law_block" (top 22)) (A_law_mixed:At K "_law_mixed" (top 23)) (A_law_points_k14:At K "_law_points" (top 27)) (A_law_cell_at:At K "_law_cell_at" (top 20)) (A_law_divisor:At K "_law_divisor" (top 24)) (A_law_lowest:At K "_law_lowest" (top 25)) (A_law_shape_k13:At K "_law_shape" (top 30)) (A_steps:At K "steps" (top 11)) (A_divisor:At K "divisor" (top 4)) (A_plus:At K "plus" (top 6)) (A_minus:At K "minus" (top 7)) (A_ratio:At K "ratio" (top 5)) (A_times:At K "times" (top 8)) (A_lowest_whole:At K "lowest_whole" (top 14)) (A_side_between:At K "side_between" (top 12)) (A_sides_of:At K "sides_of" (top 10)) (A_added:At K "added" (top 16)) (A_cross:At K "cross" (top 13)) (A_next_bend:At K "next_bend" (top 18)) (A_summed:At K "summed" (top 17)) (A_law_whole:At K "_law_whole" (top 21)) (A_law_is_fraction:At K "_law_is_fraction" (top 26)) (A_law_flat_k11:At K "_law_flat" (top 31)) (A_law_before:At K "_law_before" (top 33)) (A_law_way_k11:At K "_law_way" (top 32)) (A_law_is_shape:At K "_law_is_shape" (top 34)) (A_law_added:At K "_law_added" (top 35)) (A_law_least_k18:At K "_law_least" (top 36)) (A_law_sides_add:At K "_law_sides_add" (top 37)) (A_law_right_k18:At K "_law_right" (top 38)) (A_law_k18:At K "law" (top 39))
  (z_len:PySem.W.nsIn K mainGlobals "len" = some none) (z_abs:PySem.W.nsIn K mainGlobals "abs" = some none) (z_isinstance:PySem.W.nsIn K mainGlobals "isinstance" = some none) (z_int:PySem.W.nsIn K mainGlobals "int" = some none) (z_bool:PySem.W.nsIn K mainGlobals "bool" = some none) (z_tuple:PySem.W.nsIn K mainGlobals "tuple" = some none) (z_list:PySem.W.nsIn K mainGlobals "list" = some none) (z_range:PySem.W.nsIn K mainGlobals "range" = some none) (z_enumerate:PySem.W.nsIn K mainGlobals "enumerate" = some none) (z_min:PySem.W.nsIn K mainGlobals "min" = some none) (z_max:PySem.W.nsIn K mainGlobals "max" = some none) (z_sorted:PySem.W.nsIn K mainGlobals "sorted" = some none) (z_set:PySem.W.nsIn K mainGlobals "set" = some none) (z_reversed:PySem.W.nsIn K mainGlobals "reversed" = some none) (z_zip:PySem.W.nsIn K mainGlobals "zip" = some none) (z_sum:PySem.W.nsIn K mainGlobals "sum" = some none) :
  ∃ fd:FuncData,(∀ (s:Shared) (v:Value),BindsTo s fd ⟨[v],[]⟩ [("_law_script", v)]) ∧ ∀ base:Heap,K.In base → base.Ns mainGlobals mg → FnOk P w K mg base CX0 33 fa fd ["_law_script"] (spD K 1 (run Γ zcq 8)):=by
 have hb:∀ x∈zcg,mg x=none:=ycw X G (by
  intro x hx;simp only [zcg,Zi,W2,or_false] at hx;rcases hx with rfl | rfl | rfl | rfl | rfl | rfl | rfl | rfl | rfl | rfl | rfl | rfl | rfl | rfl | rfl | rfl <;> assumption)
 refine law_at A_law_k18 X G hfa zta ztx zsq (fun base hk hn=>?_);have G_law_turn_k13:GFn P w K mg base 1 "_law_turn" 3 (Γ 45):=B6 (k:=0) A_law_turn_k13 X G zho zin zhg rfl ⟨Calls.nil,CallsR.nil,(fun h=>nomatch h),hb⟩ ok_law_turn_k13;have G_law_ring_k13:GFn P w K mg base 2 "_law_ring" 1 (Γ 46):=B6 (k:=1) A_law_ring_k13 X G zhp zio zhh rfl ⟨(Calls.cons G_law_turn_k13 (by decide) Calls.nil),CallsR.nil,(fun h=>nomatch h),hb⟩ ok_law_ring_k13;have G_law_block:GFn P w K mg base 3 "_law_block" 2 (Γ 28):=B6 (k:=2) A_law_block X G zmt zol zmc rfl ⟨Calls.nil,CallsR.nil,(fun h=>nomatch h),hb⟩ ok_law_block;have G_law_mixed:GFn P w K mg base 4 "_law_mixed" 2 (Γ 29):=B6 (k:=3) A_law_mixed X G zms zok zmb rfl ⟨(Calls.cons G_law_block (by decide) Calls.nil),CallsR.nil,(fun h=>nomatch h),hb⟩ ok_law_mixed;have G_law_points_k14:GFn P w K mg base 5 "_law_points" 3 (Γ 34):=B6 (k:=4) A_law_points_k14 X G zfc zfq zfa rfl ⟨(Calls.cons G_law_mixed (by decide) Calls.nil),CallsR.nil,(fun h=>nomatch h),hb⟩ ok_law_points_k14;have G_law_cell_at:GFn P w K mg base 6 "_law_cell_at" 2 (Γ 2):=B6 (k:=5) A_law_cell_at X G zjc zjg ziz rfl ⟨Calls.nil,CallsR.nil,(fun h=>nomatch h),hb⟩ ok_law_cell_at;have G_law_divisor:GFn P w K mg base 7 "_law_divisor" 2 (Γ 12):=B6 (k:=6) A_law_divisor X G zjb zjf ziy rfl ⟨Calls.nil,CallsR.nil,(fun h=>nomatch h),hb⟩ ok_law_divisor;have G_law_lowest:GFn P w K mg base 8 "_law_lowest" 2 (Γ 13):=B6 (k:=7) A_law_lowest X G zkg zlo zka rfl ⟨(Calls.cons G_law_divisor (by decide) Calls.nil),CallsR.nil,(fun h=>nomatch h),hb⟩ ok_law_lowest;have G_law_shape_k13:GFn P w K mg base 9 "_law_shape" 3 (Γ 47):=B6 (k:=8) A_law_shape_k13 X G zge zgj zga rfl ⟨(Calls.cons G_law_ring_k13 (by decide) (Calls.cons G_law_points_k14 (by decide) (Calls.cons G_law_mixed (by decide) (Calls.cons G_law_cell_at (by decide) (Calls.cons G_law_lowest (by decide) Calls.nil))))),CallsR.nil,(fun h=>nomatch h),hb⟩ ok_law_shape_k13;have G_steps:GFn P w K mg base 10 "steps" 1 (Γ 41):=B6 (k:=9) A_steps X G yam ydg zzu rfl ⟨Calls.nil,CallsR.nil,(fun h=>nomatch h),hb⟩ ok_steps;have G_divisor:GFn P w K mg base 11 "divisor" 2 (Γ 0):=B6 (k:=10) A_divisor X G ztb zty zsr rfl ⟨Calls.nil,CallsR.nil,(fun h=>nomatch h),hb⟩ ok_divisor;have G_plus:GFn P w K mg base 12 "plus" 2 (Γ 9):=B6 (k:=11) A_plus X G ygt ykk yfz rfl ⟨(Calls.cons G_divisor (by decide) Calls.nil),CallsR.nil,(fun h=>nomatch h),hb⟩ ok_plus;have G_minus:GFn P w K mg base 13 "minus" 2 (Γ 10):=B6 (k:=12) A_minus X G yao ydi zzw rfl ⟨(Calls.cons G_plus (by decide) Calls.nil),CallsR.nil,(fun h=>nomatch h),hb⟩ ok_minus;have G_ratio:GFn P w K mg base 14 "ratio" 2 (Γ 1):=B6 (k:=13) A_ratio X G yan ydh zzv rfl ⟨(Calls.cons G_divisor (by decide) Calls.nil),CallsR.nil,(fun h=>nomatch h),hb⟩ ok_ratio;have G_times:GFn P w K mg base 15 "times" 2 (Γ 11):=B6 (k:=14) A_times X G yal ydf zzt rfl ⟨(Calls.cons G_ratio (by decide) Calls.nil),CallsR.nil,(fun h=>nomatch h),hb⟩ ok_times;have G_lowest_whole:GFn P w K mg base 16 "lowest_whole" 1 (Γ 43):=B6 (k:=15) A_lowest_whole X G zhn zim zhf rfl ⟨(Calls.cons G_divisor (by decide) Calls.nil),CallsR.nil,(fun h=>nomatch h),hb⟩ ok_lowest_whole;have G_side_between:GFn P w K mg base 17 "side_between" 2 (Γ 42):=B6 (k:=16) A_side_between X G zhm zil zhe rfl ⟨(Calls.cons G_minus (by decide) (Calls.cons G_plus (by decide) (Calls.cons G_times (by decide) (Calls.cons G_lowest_whole (by decide) Calls.nil)))),CallsR.nil,(fun h=>nomatch h),hb⟩ ok_side_between;have G_sides_of:GFn P w K mg base 18 "sides_of" 1 (Γ 40):=B6 (k:=17) A_sides_of X G zov zpw zor rfl ⟨(Calls.cons G_steps (by decide) (Calls.cons G_side_between (by decide) Calls.nil)),CallsR.nil,(fun h=>nomatch h),hb⟩ ok_sides_of;have G_added:GFn P w K mg base 19 "added" 2 (Γ 67):=B6 (k:=18) A_added X G yaq ydk zzy rfl ⟨(Calls.cons G_plus (by decide) Calls.nil),CallsR.nil,(fun h=>nomatch h),hb⟩ ok_added;have G_cross:GFn P w K mg base 20 "cross" 2 (Γ 81):=B6 (k:=19) A_cross X G yap ydj zzx rfl ⟨Calls.nil,CallsR.nil,(fun h=>nomatch h),hb⟩ ok_cross;have G_next_bend:GFn P w K mg base 21 "next_bend" 2 (Γ 83):=B6 (k:=20) A_next_bend X G zmq zoi zlz rfl ⟨(Calls.cons G_cross (by decide) Calls.nil),CallsR.nil,(fun h=>nomatch h),hb⟩ ok_next_bend;have G_summed:GFn P w K mg base 22 "summed" 2 (Γ 82):=B6 (k:=21) A_summed X G zvj zyy zul rfl ⟨(Calls.cons G_sides_of (by decide) (Calls.cons G_added (by decide) (Calls.cons G_next_bend (by decide) Calls.nil))),CallsR.nil,(fun h=>nomatch h),hb⟩ ok_summed;have G_law_whole:GFn P w K mg base 23 "_law_whole" 1 (Γ 3):=B6 (k:=22) A_law_whole X G zmr zoj zma rfl ⟨Calls.nil,CallsR.nil,(fun h=>nomatch h),hb⟩ ok_law_whole;have G_law_is_fraction:GFn P w K mg base 24 "_law_is_fraction" 1 (Γ 14):=B6 (k:=23) A_law_is_fraction X G zef zew zea rfl ⟨(Calls.cons G_law_whole (by decide) (Calls.cons G_law_divisor (by decide) Calls.nil)),CallsR.nil,(fun h=>nomatch h),hb⟩ ok_law_is_fraction;have G_law_flat_k11:GFn P w K mg base 25 "_law_flat" 1 (Γ 30):=B6 (k:=24) A_law_flat_k11 X G zhr zir zhj rfl ⟨Calls.nil,CallsR.nil,(fun h=>nomatch h),hb⟩ ok_law_flat_k11;have G_law_before:GFn P w K mg base 26 "_law_before" 2 (Γ 32):=B6 (k:=25) A_law_before X G zkh zlp zkb rfl ⟨Calls.nil,CallsR.nil,(fun h=>nomatch h),hb⟩ ok_law_before;have G_law_way_k11:GFn P w K mg base 27 "_law_way" 3 (Γ 31):=B6 (k:=26) A_law_way_k11 X G zja zje zix rfl ⟨Calls.nil,CallsR.nil,(fun h=>nomatch h),hb⟩ ok_law_way_k11;have G_law_is_shape:GFn P w K mg base 28 "_law_is_shape" 1 (Γ 33):=B6 (k:=27) A_law_is_shape X G zhq ziq zhi rfl ⟨(Calls.cons G_law_is_fraction (by decide) (Calls.cons G_law_flat_k11 (by decide) (Calls.cons G_law_before (by decide) (Calls.cons G_law_way_k11 (by decide) Calls.nil)))),CallsR.nil,(fun h=>nomatch h),hb⟩ ok_law_is_shape;have G_law_added:GFn P w K mg base 29 "_law_added" 2 (Γ 73):=B6 (k:=28) A_law_added X G zmu zom zmd rfl ⟨(Calls.cons G_law_lowest (by decide) Calls.nil),CallsR.nil,(fun h=>nomatch h),hb⟩ ok_law_added;have G_law_least_k18:GFn P w K mg base 30 "_law_least" 3 (Γ 84):=B6 (k:=29) A_law_least_k18 X G zgg zgl zgc rfl ⟨(Calls.cons G_law_flat_k11 (by decide) (Calls.cons G_law_lowest (by decide) Calls.nil)),CallsR.nil,(fun h=>nomatch h),hb⟩ ok_law_least_k18;have G_law_sides_add:GFn P w K mg base 31 "_law_sides_add" 3 (Γ 85):=B6 (k:=30) A_law_sides_add X G zgd zgi zfz rfl ⟨(Calls.cons G_law_flat_k11 (by decide) (Calls.cons G_law_lowest (by decide) (Calls.cons G_law_added (by decide) (Calls.cons G_law_least_k18 (by decide) Calls.nil)))),CallsR.nil,(fun h=>nomatch h),hb⟩ ok_law_sides_add;have G_law_right_k18:GFn P w K mg base 32 "_law_right" 3 (Γ 35):=B6 (k:=31) A_law_right_k18 X G zgf zgk zgb rfl ⟨(Calls.cons G_law_is_shape (by decide) (Calls.cons G_law_added (by decide) (Calls.cons G_law_sides_add (by decide) Calls.nil))),CallsR.nil,(fun h=>nomatch h),hb⟩ ok_law_right_k18;exact⟨(Calls.cons G_law_shape_k13 (by decide) (Calls.cons G_law_cell_at (by decide) (Calls.cons G_summed (by decide) (Calls.cons G_law_right_k18 (by decide) Calls.nil)))),CallsR.nil,(fun h=>nomatch h),hb⟩
end
theorem walk {l:PySem.W.OpenLaw} {q:Program} {loose:List Str} {XP:(Str → Option Value) → Heap → Prop} {YP:World → Heap → Prop} {d:DefRec} {K:Params → PySem.W.Frag} (hn:l.most=some 63) (hdf:d.params.defaults=[])
  (hY:∀ (w:World) (h:Heap),YP w h → (K w.params).In h)
  (F:∀ (w:World) (mg:Str → Option Value) (fa:Addr) (h:Heap),(K w.params).In h → h.Ns mainGlobals mg → mg d.name=some (.ref fa) →
   ∃ fd:FuncData,(∀ (s:Shared) (u:Value),BindsTo s fd ⟨[u],[]⟩ [("_law_script", u)]) ∧ ∀ base:Heap,(K w.params).In base → base.Ns mainGlobals mg → FnOk l.prog w (K w.params) mg base CX0 33 fa fd ["_law_script"] (spD (K w.params) 1 (run Γ zcq 8))) :
  PySem.W.WalkO q loose XP YP l.row.toRowW d [] (fun f vs=>PySem.call f vs):=
 L2.walk_of (n:=63) (k:=33) (x := "_law_script") (CX:=fun _=>CX0) (sp:=fun w=>spD (K w.params) 1 (run Γ zcq 8)) hn (by decide) hdf ⟨rfl,by decide,by decide⟩ hY F (fun _ H a ns hl _ hS=>ybu ybt H a ns hl hS) fun _ _ _ _ _ z=>z
end LW
open PySem PySem.W PyProof.Rows
/-! size: the head lays twins of its constants; where these names stand it goes on without -/
namespace PySem.W.Fast
theorem tw3389003897796994790:True:=⟨⟩
theorem tw10623575454795651729:True:=⟨⟩
theorem tw17609104856402918763:True:=⟨⟩
theorem tw16429707247678746632:True:=⟨⟩
theorem tw15408651544607424313:True:=⟨⟩
theorem tw9832600097188233848:True:=⟨⟩
theorem tw12254095292959618908:True:=⟨⟩
theorem tw1683874971174658137:True:=⟨⟩
theorem tw15574088334224381741:True:=⟨⟩
theorem tw16466577434421699194:True:=⟨⟩
theorem tw13067915990363887025:True:=⟨⟩
theorem tw4002841185572317085:True:=⟨⟩
theorem tw14521587562033177831:True:=⟨⟩
theorem tw2360667010819737601:True:=⟨⟩
theorem tw16087282560617786897:True:=⟨⟩
theorem tw2498850534538354866:True:=⟨⟩
theorem tw5953595047573000726:True:=⟨⟩
theorem tw9475381923338802745:True:=⟨⟩
theorem tw3728021690272664242:True:=⟨⟩
theorem tw13220693475392474252:True:=⟨⟩
theorem tw1798494756445241308:True:=⟨⟩
theorem tw16668910681753108970:True:=⟨⟩
theorem tw14647754592091933314:True:=⟨⟩
theorem tw14804289537767879436:True:=⟨⟩
theorem tw4828296055114173564:True:=⟨⟩
theorem tw4409311049141912335:True:=⟨⟩
theorem tw2250381785209874526:True:=⟨⟩
theorem tw10349351320003843781:True:=⟨⟩
theorem tw13644038432506619355:True:=⟨⟩
theorem tw2525333607026512184:True:=⟨⟩
theorem tw1536764458973432183:True:=⟨⟩
theorem tw15290116883259035561:True:=⟨⟩
theorem tw8076539703048767937:True:=⟨⟩
theorem tw5410446230211998626:True:=⟨⟩
theorem tw722731588125913310:True:=⟨⟩
theorem tw4808317606293281557:True:=⟨⟩
theorem tw1426955905205643609:True:=⟨⟩
theorem tw6568450507831964755:True:=⟨⟩
theorem tw8020787929528062861:True:=⟨⟩
theorem tw1573673143501028662:True:=⟨⟩
end PySem.W.Fast
set_option maxRecDepth 100000 in
set_option maxHeartbeats 0 in
theorem PySem.Challenge.cw_snugfit_k18_whole_sum_holds : PySem.Challenge.rw_snugfit_k18_whole_sum.Holds := by
 w_on;o_law;k_head;(case hw=>w_witness2)
 k_fill
 refine LW.walk (l:=PySem.Challenge.rw_snugfit_k18_whole_sum) rfl rfl (fun w h Y=>PySem.W.kIn_of Y) ?F
 case F=>
  intro w mg fa h KX G hmg;refine' LW.all_mk KX G hmg ?A0 ?A1 ?A2 ?A3 ?A4 ?A5 ?A6 ?A7 ?A8 ?A9 ?A10 ?A11 ?A12 ?A13 ?A14 ?A15 ?A16 ?A17 ?A18 ?A19 ?A20 ?A21 ?A22 ?A23 ?A24 ?A25 ?A26 ?A27 ?A28 ?A29 ?A30 ?A31 ?A32 ?z_len ?z_abs ?z_isinstance ?z_int ?z_bool ?z_tuple ?z_list ?z_range ?z_enumerate ?z_min ?z_max ?z_sorted ?z_set ?z_reversed ?z_zip ?z_sum
  (case A0=>(refine' DL.at_mk ?a ?l ?c ?k;(case a=>k_is);(case l=>k_is);(case c=>k_is);(case k=>k_is)))
  (case A1=>(refine' DL.at_mk ?a ?l ?c ?k;(case a=>k_is);(case l=>k_is);(case c=>k_is);(case k=>k_is)))
  (case A2=>(refine' DL.at_mk ?a ?l ?c ?k;(case a=>k_is);(case l=>k_is);(case c=>k_is);(case k=>k_is)))
  (case A3=>(refine' DL.at_mk ?a ?l ?c ?k;(case a=>k_is);(case l=>k_is);(case c=>k_is);(case k=>k_is)))
  (case A4=>(refine' DL.at_mk ?a ?l ?c ?k;(case a=>k_is);(case l=>k_is);(case c=>k_is);(case k=>k_is)))
  (case A5=>(refine' DL.at_mk ?a ?l ?c ?k;(case a=>k_is);(case l=>k_is);(case c=>k_is);(case k=>k_is)))
  (case A6=>(refine' DL.at_mk ?a ?l ?c ?k;(case a=>k_is);(case l=>k_is);(case c=>k_is);(case k=>k_is)))
  (case A7=>(refine' DL.at_mk ?a ?l ?c ?k;(case a=>k_is);(case l=>k_is);(case c=>k_is);(case k=>k_is)))
  (case A8=>(refine' DL.at_mk ?a ?l ?c ?k;(case a=>k_is);(case l=>k_is);(case c=>k_is);(case k=>k_is)))
  (case A9=>(refine' DL.at_mk ?a ?l ?c ?k;(case a=>k_is);(case l=>k_is);(case c=>k_is);(case k=>k_is)))
  (case A10=>(refine' DL.at_mk ?a ?l ?c ?k;(case a=>k_is);(case l=>k_is);(case c=>k_is);(case k=>k_is)))
  (case A11=>(refine' DL.at_mk ?a ?l ?c ?k;(case a=>k_is);(case l=>k_is);(case c=>k_is);(case k=>k_is)))
  (case A12=>(refine' DL.at_mk ?a ?l ?c ?k;(case a=>k_is);(case l=>k_is);(case c=>k_is);(case k=>k_is)))
  (case A13=>(refine' DL.at_mk ?a ?l ?c ?k;(case a=>k_is);(case l=>k_is);(case c=>k_is);(case k=>k_is)))
  (case A14=>(refine' DL.at_mk ?a ?l ?c ?k;(case a=>k_is);(case l=>k_is);(case c=>k_is);(case k=>k_is)))
  (case A15=>(refine' DL.at_mk ?a ?l ?c ?k;(case a=>k_is);(case l=>k_is);(case c=>k_is);(case k=>k_is)))
  (case A16=>(refine' DL.at_mk ?a ?l ?c ?k;(case a=>k_is);(case l=>k_is);(case c=>k_is);(case k=>k_is)))
  (case A17=>(refine' DL.at_mk ?a ?l ?c ?k;(case a=>k_is);(case l=>k_is);(case c=>k_is);(case k=>k_is)))
  (case A18=>(refine' DL.at_mk ?a ?l ?c ?k;(case a=>k_is);(case l=>k_is);(case c=>k_is);(case k=>k_is)))
  (case A19=>(refine' DL.at_mk ?a ?l ?c ?k;(case a=>k_is);(case l=>k_is);(case c=>k_is);(case k=>k_is)))
  (case A20=>(refine' DL.at_mk ?a ?l ?c ?k;(case a=>k_is);(case l=>k_is);(case c=>k_is);(case k=>k_is)))
  (case A21=>(refine' DL.at_mk ?a ?l ?c ?k;(case a=>k_is);(case l=>k_is);(case c=>k_is);(case k=>k_is)))
  (case A22=>(refine' DL.at_mk ?a ?l ?c ?k;(case a=>k_is);(case l=>k_is);(case c=>k_is);(case k=>k_is)))
  (case A23=>(refine' DL.at_mk ?a ?l ?c ?k;(case a=>k_is);(case l=>k_is);(case c=>k_is);(case k=>k_is)))
  (case A24=>(refine' DL.at_mk ?a ?l ?c ?k;(case a=>k_is);(case l=>k_is);(case c=>k_is);(case k=>k_is)))
  (case A25=>(refine' DL.at_mk ?a ?l ?c ?k;(case a=>k_is);(case l=>k_is);(case c=>k_is);(case k=>k_is)))
  (case A26=>(refine' DL.at_mk ?a ?l ?c ?k;(case a=>k_is);(case l=>k_is);(case c=>k_is);(case k=>k_is)))
  (case A27=>(refine' DL.at_mk ?a ?l ?c ?k;(case a=>k_is);(case l=>k_is);(case c=>k_is);(case k=>k_is)))
  (case A28=>(refine' DL.at_mk ?a ?l ?c ?k;(case a=>k_is);(case l=>k_is);(case c=>k_is);(case k=>k_is)))
  (case A29=>(refine' DL.at_mk ?a ?l ?c ?k;(case a=>k_is);(case l=>k_is);(case c=>k_is);(case k=>k_is)))
  (case A30=>(refine' DL.at_mk ?a ?l ?c ?k;(case a=>k_is);(case l=>k_is);(case c=>k_is);(case k=>k_is)))
  (case A31=>(refine' DL.at_mk ?a ?l ?c ?k;(case a=>k_is);(case l=>k_is);(case c=>k_is);(case k=>k_is)))
  (case A32=>(refine' DL.at_mk ?a ?l ?c ?k;(case a=>k_is);(case l=>k_is);(case c=>k_is);(case k=>k_is)))
  (case z_len=>k_is)
  (case z_abs=>k_is)
  (case z_isinstance=>k_is)
  (case z_int=>k_is)
  (case z_bool=>k_is)
  (case z_tuple=>k_is)
  (case z_list=>k_is)
  (case z_range=>k_is)
  (case z_enumerate=>k_is)
  (case z_min=>k_is)
  (case z_max=>k_is)
  (case z_sorted=>k_is)
  (case z_set=>k_is)
  (case z_reversed=>k_is)
  (case z_zip=>k_is)
  (case z_sum=>k_is)
#print axioms PySem.Challenge.cw_snugfit_k18_whole_sum_holds

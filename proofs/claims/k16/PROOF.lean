import PyProof.Rows.All
import Wide.All
import OpenK.AllK
import Wide.FinOn
import Lean
import PyProof.EqAt
import PyProof.EqKinds
import PyProof.TupleCall
import PyProof.P3In
import PyProof.Rows.EqDataRows
import KE.KTryMore
import PyProof.SetScanFacts
import PyProof.Rows.SetFrom
import PyProof.SetRoads
import KE.KSortAsk
import KE.KSortTup
import KE.KRevIter
import PyProof.ZipIter
import PySem.Challenge.RW_snugfit_k16_pushed_sized_turned
set_option Elab.async false
set_option linter.all false
set_option maxRecDepth 100000
set_option maxHeartbeats 8000000
set_option compiler.extract_closed false
set_option genSizeOf false
set_option genInjectivity false
theorem x0_2  {A0 : Prop} {A1 : Prop} {G : Prop} (h : (A0) /\ A1) (k : A0 -> A1 -> G) : G := k h.1 h.2
theorem x0_3  {A0 : Prop} {A1 : Prop} {A2 : Prop} {G : Prop} (h : (A0) /\ (A1) /\ A2) (k : A0 -> A1 -> A2 -> G) : G := k h.1 h.2.1 h.2.2
theorem x0_4  {A0 : Prop} {A1 : Prop} {A2 : Prop} {A3 : Prop} {G : Prop} (h : (A0) /\ (A1) /\ (A2) /\ A3) (k : A0 -> A1 -> A2 -> A3 -> G) : G := k h.1 h.2.1 h.2.2.1 h.2.2.2
theorem x0_5  {A0 : Prop} {A1 : Prop} {A2 : Prop} {A3 : Prop} {A4 : Prop} {G : Prop} (h : (A0) /\ (A1) /\ (A2) /\ (A3) /\ A4) (k : A0 -> A1 -> A2 -> A3 -> A4 -> G) : G := k h.1 h.2.1 h.2.2.1 h.2.2.2.1 h.2.2.2.2
theorem x0_6  {A0 : Prop} {A1 : Prop} {A2 : Prop} {A3 : Prop} {A4 : Prop} {A5 : Prop} {G : Prop} (h : (A0) /\ (A1) /\ (A2) /\ (A3) /\ (A4) /\ A5) (k : A0 -> A1 -> A2 -> A3 -> A4 -> A5 -> G) : G := k h.1 h.2.1 h.2.2.1 h.2.2.2.1 h.2.2.2.2.1 h.2.2.2.2.2
theorem x0_8  {A0 : Prop} {A1 : Prop} {A2 : Prop} {A3 : Prop} {A4 : Prop} {A5 : Prop} {A6 : Prop} {A7 : Prop} {G : Prop} (h : (A0) /\ (A1) /\ (A2) /\ (A3) /\ (A4) /\ (A5) /\ (A6) /\ A7) (k : A0 -> A1 -> A2 -> A3 -> A4 -> A5 -> A6 -> A7 -> G) : G := k h.1 h.2.1 h.2.2.1 h.2.2.2.1 h.2.2.2.2.1 h.2.2.2.2.2.1 h.2.2.2.2.2.2.1 h.2.2.2.2.2.2.2
theorem x1_1.{u0} {a0 : Sort u0} {A1 : a0 -> Prop} {G : Prop} (h : ∃ v0, A1 v0) (k : ∀ v0, A1 v0 -> G) : G := Exists.elim h fun v0 h0 => k v0 h0
theorem x1_2.{u0} {a0 : Sort u0} {A1 : a0 -> Prop} {A2 : a0 -> Prop} {G : Prop} (h : ∃ v0, (A1 v0) /\ A2 v0) (k : ∀ v0, A1 v0 -> A2 v0 -> G) : G := Exists.elim h fun v0 h0 => k v0 h0.1 h0.2
theorem x1_3.{u0} {a0 : Sort u0} {A1 : a0 -> Prop} {A2 : a0 -> Prop} {A3 : a0 -> Prop} {G : Prop} (h : ∃ v0, (A1 v0) /\ (A2 v0) /\ A3 v0) (k : ∀ v0, A1 v0 -> A2 v0 -> A3 v0 -> G) : G := Exists.elim h fun v0 h0 => k v0 h0.1 h0.2.1 h0.2.2
theorem x1_4.{u0} {a0 : Sort u0} {A1 : a0 -> Prop} {A2 : a0 -> Prop} {A3 : a0 -> Prop} {A4 : a0 -> Prop} {G : Prop} (h : ∃ v0, (A1 v0) /\ (A2 v0) /\ (A3 v0) /\ A4 v0) (k : ∀ v0, A1 v0 -> A2 v0 -> A3 v0 -> A4 v0 -> G) : G := Exists.elim h fun v0 h0 => k v0 h0.1 h0.2.1 h0.2.2.1 h0.2.2.2
theorem x1_5.{u0} {a0 : Sort u0} {A1 : a0 -> Prop} {A2 : a0 -> Prop} {A3 : a0 -> Prop} {A4 : a0 -> Prop} {A5 : a0 -> Prop} {G : Prop} (h : ∃ v0, (A1 v0) /\ (A2 v0) /\ (A3 v0) /\ (A4 v0) /\ A5 v0) (k : ∀ v0, A1 v0 -> A2 v0 -> A3 v0 -> A4 v0 -> A5 v0 -> G) : G := Exists.elim h fun v0 h0 => k v0 h0.1 h0.2.1 h0.2.2.1 h0.2.2.2.1 h0.2.2.2.2
theorem x2_1.{u0, u1} {a0 : Sort u0} {a1 : Sort u1} {A2 : a0 -> a1 -> Prop} {G : Prop} (h : ∃ v0, ∃ v1, A2 v0 v1) (k : ∀ v0, ∀ v1, A2 v0 v1 -> G) : G := Exists.elim h fun v0 h0 => Exists.elim h0 fun v1 h1 => k v0 v1 h1
theorem x2_2.{u0, u1} {a0 : Sort u0} {a1 : Sort u1} {A2 : a0 -> a1 -> Prop} {A3 : a0 -> a1 -> Prop} {G : Prop} (h : ∃ v0, ∃ v1, (A2 v0 v1) /\ A3 v0 v1) (k : ∀ v0, ∀ v1, A2 v0 v1 -> A3 v0 v1 -> G) : G := Exists.elim h fun v0 h0 => Exists.elim h0 fun v1 h1 => k v0 v1 h1.1 h1.2
theorem x2_3.{u0, u1} {a0 : Sort u0} {a1 : Sort u1} {A2 : a0 -> a1 -> Prop} {A3 : a0 -> a1 -> Prop} {A4 : a0 -> a1 -> Prop} {G : Prop} (h : ∃ v0, ∃ v1, (A2 v0 v1) /\ (A3 v0 v1) /\ A4 v0 v1) (k : ∀ v0, ∀ v1, A2 v0 v1 -> A3 v0 v1 -> A4 v0 v1 -> G) : G := Exists.elim h fun v0 h0 => Exists.elim h0 fun v1 h1 => k v0 v1 h1.1 h1.2.1 h1.2.2
theorem x2_4.{u0, u1} {a0 : Sort u0} {a1 : Sort u1} {A2 : a0 -> a1 -> Prop} {A3 : a0 -> a1 -> Prop} {A4 : a0 -> a1 -> Prop} {A5 : a0 -> a1 -> Prop} {G : Prop} (h : ∃ v0, ∃ v1, (A2 v0 v1) /\ (A3 v0 v1) /\ (A4 v0 v1) /\ A5 v0 v1) (k : ∀ v0, ∀ v1, A2 v0 v1 -> A3 v0 v1 -> A4 v0 v1 -> A5 v0 v1 -> G) : G := Exists.elim h fun v0 h0 => Exists.elim h0 fun v1 h1 => k v0 v1 h1.1 h1.2.1 h1.2.2.1 h1.2.2.2
theorem x2_5.{u0, u1} {a0 : Sort u0} {a1 : Sort u1} {A2 : a0 -> a1 -> Prop} {A3 : a0 -> a1 -> Prop} {A4 : a0 -> a1 -> Prop} {A5 : a0 -> a1 -> Prop} {A6 : a0 -> a1 -> Prop} {G : Prop} (h : ∃ v0, ∃ v1, (A2 v0 v1) /\ (A3 v0 v1) /\ (A4 v0 v1) /\ (A5 v0 v1) /\ A6 v0 v1) (k : ∀ v0, ∀ v1, A2 v0 v1 -> A3 v0 v1 -> A4 v0 v1 -> A5 v0 v1 -> A6 v0 v1 -> G) : G := Exists.elim h fun v0 h0 => Exists.elim h0 fun v1 h1 => k v0 v1 h1.1 h1.2.1 h1.2.2.1 h1.2.2.2.1 h1.2.2.2.2
theorem x2_6.{u0, u1} {a0 : Sort u0} {a1 : Sort u1} {A2 : a0 -> a1 -> Prop} {A3 : a0 -> a1 -> Prop} {A4 : a0 -> a1 -> Prop} {A5 : a0 -> a1 -> Prop} {A6 : a0 -> a1 -> Prop} {A7 : a0 -> a1 -> Prop} {G : Prop} (h : ∃ v0, ∃ v1, (A2 v0 v1) /\ (A3 v0 v1) /\ (A4 v0 v1) /\ (A5 v0 v1) /\ (A6 v0 v1) /\ A7 v0 v1) (k : ∀ v0, ∀ v1, A2 v0 v1 -> A3 v0 v1 -> A4 v0 v1 -> A5 v0 v1 -> A6 v0 v1 -> A7 v0 v1 -> G) : G := Exists.elim h fun v0 h0 => Exists.elim h0 fun v1 h1 => k v0 v1 h1.1 h1.2.1 h1.2.2.1 h1.2.2.2.1 h1.2.2.2.2.1 h1.2.2.2.2.2
theorem x3_1.{u0, u1, u2} {a0 : Sort u0} {a1 : Sort u1} {a2 : Sort u2} {A3 : a0 -> a1 -> a2 -> Prop} {G : Prop} (h : ∃ v0, ∃ v1, ∃ v2, A3 v0 v1 v2) (k : ∀ v0, ∀ v1, ∀ v2, A3 v0 v1 v2 -> G) : G := Exists.elim h fun v0 h0 => Exists.elim h0 fun v1 h1 => Exists.elim h1 fun v2 h2 => k v0 v1 v2 h2
theorem x3_2.{u0, u1, u2} {a0 : Sort u0} {a1 : Sort u1} {a2 : Sort u2} {A3 : a0 -> a1 -> a2 -> Prop} {A4 : a0 -> a1 -> a2 -> Prop} {G : Prop} (h : ∃ v0, ∃ v1, ∃ v2, (A3 v0 v1 v2) /\ A4 v0 v1 v2) (k : ∀ v0, ∀ v1, ∀ v2, A3 v0 v1 v2 -> A4 v0 v1 v2 -> G) : G := Exists.elim h fun v0 h0 => Exists.elim h0 fun v1 h1 => Exists.elim h1 fun v2 h2 => k v0 v1 v2 h2.1 h2.2
theorem x3_3.{u0, u1, u2} {a0 : Sort u0} {a1 : Sort u1} {a2 : Sort u2} {A3 : a0 -> a1 -> a2 -> Prop} {A4 : a0 -> a1 -> a2 -> Prop} {A5 : a0 -> a1 -> a2 -> Prop} {G : Prop} (h : ∃ v0, ∃ v1, ∃ v2, (A3 v0 v1 v2) /\ (A4 v0 v1 v2) /\ A5 v0 v1 v2) (k : ∀ v0, ∀ v1, ∀ v2, A3 v0 v1 v2 -> A4 v0 v1 v2 -> A5 v0 v1 v2 -> G) : G := Exists.elim h fun v0 h0 => Exists.elim h0 fun v1 h1 => Exists.elim h1 fun v2 h2 => k v0 v1 v2 h2.1 h2.2.1 h2.2.2
theorem x3_4.{u0, u1, u2} {a0 : Sort u0} {a1 : Sort u1} {a2 : Sort u2} {A3 : a0 -> a1 -> a2 -> Prop} {A4 : a0 -> a1 -> a2 -> Prop} {A5 : a0 -> a1 -> a2 -> Prop} {A6 : a0 -> a1 -> a2 -> Prop} {G : Prop} (h : ∃ v0, ∃ v1, ∃ v2, (A3 v0 v1 v2) /\ (A4 v0 v1 v2) /\ (A5 v0 v1 v2) /\ A6 v0 v1 v2) (k : ∀ v0, ∀ v1, ∀ v2, A3 v0 v1 v2 -> A4 v0 v1 v2 -> A5 v0 v1 v2 -> A6 v0 v1 v2 -> G) : G := Exists.elim h fun v0 h0 => Exists.elim h0 fun v1 h1 => Exists.elim h1 fun v2 h2 => k v0 v1 v2 h2.1 h2.2.1 h2.2.2.1 h2.2.2.2
theorem x3_5.{u0, u1, u2} {a0 : Sort u0} {a1 : Sort u1} {a2 : Sort u2} {A3 : a0 -> a1 -> a2 -> Prop} {A4 : a0 -> a1 -> a2 -> Prop} {A5 : a0 -> a1 -> a2 -> Prop} {A6 : a0 -> a1 -> a2 -> Prop} {A7 : a0 -> a1 -> a2 -> Prop} {G : Prop} (h : ∃ v0, ∃ v1, ∃ v2, (A3 v0 v1 v2) /\ (A4 v0 v1 v2) /\ (A5 v0 v1 v2) /\ (A6 v0 v1 v2) /\ A7 v0 v1 v2) (k : ∀ v0, ∀ v1, ∀ v2, A3 v0 v1 v2 -> A4 v0 v1 v2 -> A5 v0 v1 v2 -> A6 v0 v1 v2 -> A7 v0 v1 v2 -> G) : G := Exists.elim h fun v0 h0 => Exists.elim h0 fun v1 h1 => Exists.elim h1 fun v2 h2 => k v0 v1 v2 h2.1 h2.2.1 h2.2.2.1 h2.2.2.2.1 h2.2.2.2.2
theorem x4_2.{u0, u1, u2, u3} {a0 : Sort u0} {a1 : Sort u1} {a2 : Sort u2} {a3 : Sort u3} {A4 : a0 -> a1 -> a2 -> a3 -> Prop} {A5 : a0 -> a1 -> a2 -> a3 -> Prop} {G : Prop} (h : ∃ v0, ∃ v1, ∃ v2, ∃ v3, (A4 v0 v1 v2 v3) /\ A5 v0 v1 v2 v3) (k : ∀ v0, ∀ v1, ∀ v2, ∀ v3, A4 v0 v1 v2 v3 -> A5 v0 v1 v2 v3 -> G) : G := Exists.elim h fun v0 h0 => Exists.elim h0 fun v1 h1 => Exists.elim h1 fun v2 h2 => Exists.elim h2 fun v3 h3 => k v0 v1 v2 v3 h3.1 h3.2
theorem x4_3.{u0, u1, u2, u3} {a0 : Sort u0} {a1 : Sort u1} {a2 : Sort u2} {a3 : Sort u3} {A4 : a0 -> a1 -> a2 -> a3 -> Prop} {A5 : a0 -> a1 -> a2 -> a3 -> Prop} {A6 : a0 -> a1 -> a2 -> a3 -> Prop} {G : Prop} (h : ∃ v0, ∃ v1, ∃ v2, ∃ v3, (A4 v0 v1 v2 v3) /\ (A5 v0 v1 v2 v3) /\ A6 v0 v1 v2 v3) (k : ∀ v0, ∀ v1, ∀ v2, ∀ v3, A4 v0 v1 v2 v3 -> A5 v0 v1 v2 v3 -> A6 v0 v1 v2 v3 -> G) : G := Exists.elim h fun v0 h0 => Exists.elim h0 fun v1 h1 => Exists.elim h1 fun v2 h2 => Exists.elim h2 fun v3 h3 => k v0 v1 v2 v3 h3.1 h3.2.1 h3.2.2
theorem x4_5.{u0, u1, u2, u3} {a0 : Sort u0} {a1 : Sort u1} {a2 : Sort u2} {a3 : Sort u3} {A4 : a0 -> a1 -> a2 -> a3 -> Prop} {A5 : a0 -> a1 -> a2 -> a3 -> Prop} {A6 : a0 -> a1 -> a2 -> a3 -> Prop} {A7 : a0 -> a1 -> a2 -> a3 -> Prop} {A8 : a0 -> a1 -> a2 -> a3 -> Prop} {G : Prop} (h : ∃ v0, ∃ v1, ∃ v2, ∃ v3, (A4 v0 v1 v2 v3) /\ (A5 v0 v1 v2 v3) /\ (A6 v0 v1 v2 v3) /\ (A7 v0 v1 v2 v3) /\ A8 v0 v1 v2 v3) (k : ∀ v0, ∀ v1, ∀ v2, ∀ v3, A4 v0 v1 v2 v3 -> A5 v0 v1 v2 v3 -> A6 v0 v1 v2 v3 -> A7 v0 v1 v2 v3 -> A8 v0 v1 v2 v3 -> G) : G := Exists.elim h fun v0 h0 => Exists.elim h0 fun v1 h1 => Exists.elim h1 fun v2 h2 => Exists.elim h2 fun v3 h3 => k v0 v1 v2 v3 h3.1 h3.2.1 h3.2.2.1 h3.2.2.2.1 h3.2.2.2.2
theorem x4_6.{u0, u1, u2, u3} {a0 : Sort u0} {a1 : Sort u1} {a2 : Sort u2} {a3 : Sort u3} {A4 : a0 -> a1 -> a2 -> a3 -> Prop} {A5 : a0 -> a1 -> a2 -> a3 -> Prop} {A6 : a0 -> a1 -> a2 -> a3 -> Prop} {A7 : a0 -> a1 -> a2 -> a3 -> Prop} {A8 : a0 -> a1 -> a2 -> a3 -> Prop} {A9 : a0 -> a1 -> a2 -> a3 -> Prop} {G : Prop} (h : ∃ v0, ∃ v1, ∃ v2, ∃ v3, (A4 v0 v1 v2 v3) /\ (A5 v0 v1 v2 v3) /\ (A6 v0 v1 v2 v3) /\ (A7 v0 v1 v2 v3) /\ (A8 v0 v1 v2 v3) /\ A9 v0 v1 v2 v3) (k : ∀ v0, ∀ v1, ∀ v2, ∀ v3, A4 v0 v1 v2 v3 -> A5 v0 v1 v2 v3 -> A6 v0 v1 v2 v3 -> A7 v0 v1 v2 v3 -> A8 v0 v1 v2 v3 -> A9 v0 v1 v2 v3 -> G) : G := Exists.elim h fun v0 h0 => Exists.elim h0 fun v1 h1 => Exists.elim h1 fun v2 h2 => Exists.elim h2 fun v3 h3 => k v0 v1 v2 v3 h3.1 h3.2.1 h3.2.2.1 h3.2.2.2.1 h3.2.2.2.2.1 h3.2.2.2.2.2
theorem x4_7.{u0, u1, u2, u3} {a0 : Sort u0} {a1 : Sort u1} {a2 : Sort u2} {a3 : Sort u3} {A4 : a0 -> a1 -> a2 -> a3 -> Prop} {A5 : a0 -> a1 -> a2 -> a3 -> Prop} {A6 : a0 -> a1 -> a2 -> a3 -> Prop} {A7 : a0 -> a1 -> a2 -> a3 -> Prop} {A8 : a0 -> a1 -> a2 -> a3 -> Prop} {A9 : a0 -> a1 -> a2 -> a3 -> Prop} {A10 : a0 -> a1 -> a2 -> a3 -> Prop} {G : Prop} (h : ∃ v0, ∃ v1, ∃ v2, ∃ v3, (A4 v0 v1 v2 v3) /\ (A5 v0 v1 v2 v3) /\ (A6 v0 v1 v2 v3) /\ (A7 v0 v1 v2 v3) /\ (A8 v0 v1 v2 v3) /\ (A9 v0 v1 v2 v3) /\ A10 v0 v1 v2 v3) (k : ∀ v0, ∀ v1, ∀ v2, ∀ v3, A4 v0 v1 v2 v3 -> A5 v0 v1 v2 v3 -> A6 v0 v1 v2 v3 -> A7 v0 v1 v2 v3 -> A8 v0 v1 v2 v3 -> A9 v0 v1 v2 v3 -> A10 v0 v1 v2 v3 -> G) : G := Exists.elim h fun v0 h0 => Exists.elim h0 fun v1 h1 => Exists.elim h1 fun v2 h2 => Exists.elim h2 fun v3 h3 => k v0 v1 v2 v3 h3.1 h3.2.1 h3.2.2.1 h3.2.2.2.1 h3.2.2.2.2.1 h3.2.2.2.2.2.1 h3.2.2.2.2.2.2
theorem x4_10.{u0, u1, u2, u3} {a0 : Sort u0} {a1 : Sort u1} {a2 : Sort u2} {a3 : Sort u3} {A4 : a0 -> a1 -> a2 -> a3 -> Prop} {A5 : a0 -> a1 -> a2 -> a3 -> Prop} {A6 : a0 -> a1 -> a2 -> a3 -> Prop} {A7 : a0 -> a1 -> a2 -> a3 -> Prop} {A8 : a0 -> a1 -> a2 -> a3 -> Prop} {A9 : a0 -> a1 -> a2 -> a3 -> Prop} {A10 : a0 -> a1 -> a2 -> a3 -> Prop} {A11 : a0 -> a1 -> a2 -> a3 -> Prop} {A12 : a0 -> a1 -> a2 -> a3 -> Prop} {A13 : a0 -> a1 -> a2 -> a3 -> Prop} {G : Prop} (h : ∃ v0, ∃ v1, ∃ v2, ∃ v3, (A4 v0 v1 v2 v3) /\ (A5 v0 v1 v2 v3) /\ (A6 v0 v1 v2 v3) /\ (A7 v0 v1 v2 v3) /\ (A8 v0 v1 v2 v3) /\ (A9 v0 v1 v2 v3) /\ (A10 v0 v1 v2 v3) /\ (A11 v0 v1 v2 v3) /\ (A12 v0 v1 v2 v3) /\ A13 v0 v1 v2 v3) (k : ∀ v0, ∀ v1, ∀ v2, ∀ v3, A4 v0 v1 v2 v3 -> A5 v0 v1 v2 v3 -> A6 v0 v1 v2 v3 -> A7 v0 v1 v2 v3 -> A8 v0 v1 v2 v3 -> A9 v0 v1 v2 v3 -> A10 v0 v1 v2 v3 -> A11 v0 v1 v2 v3 -> A12 v0 v1 v2 v3 -> A13 v0 v1 v2 v3 -> G) : G := Exists.elim h fun v0 h0 => Exists.elim h0 fun v1 h1 => Exists.elim h1 fun v2 h2 => Exists.elim h2 fun v3 h3 => k v0 v1 v2 v3 h3.1 h3.2.1 h3.2.2.1 h3.2.2.2.1 h3.2.2.2.2.1 h3.2.2.2.2.2.1 h3.2.2.2.2.2.2.1 h3.2.2.2.2.2.2.2.1 h3.2.2.2.2.2.2.2.2.1 h3.2.2.2.2.2.2.2.2.2
theorem x5_1.{u0, u1, u2, u3, u4} {a0 : Sort u0} {a1 : Sort u1} {a2 : Sort u2} {a3 : Sort u3} {a4 : Sort u4} {A5 : a0 -> a1 -> a2 -> a3 -> a4 -> Prop} {G : Prop} (h : ∃ v0, ∃ v1, ∃ v2, ∃ v3, ∃ v4, A5 v0 v1 v2 v3 v4) (k : ∀ v0, ∀ v1, ∀ v2, ∀ v3, ∀ v4, A5 v0 v1 v2 v3 v4 -> G) : G := Exists.elim h fun v0 h0 => Exists.elim h0 fun v1 h1 => Exists.elim h1 fun v2 h2 => Exists.elim h2 fun v3 h3 => Exists.elim h3 fun v4 h4 => k v0 v1 v2 v3 v4 h4
theorem x5_2.{u0, u1, u2, u3, u4} {a0 : Sort u0} {a1 : Sort u1} {a2 : Sort u2} {a3 : Sort u3} {a4 : Sort u4} {A5 : a0 -> a1 -> a2 -> a3 -> a4 -> Prop} {A6 : a0 -> a1 -> a2 -> a3 -> a4 -> Prop} {G : Prop} (h : ∃ v0, ∃ v1, ∃ v2, ∃ v3, ∃ v4, (A5 v0 v1 v2 v3 v4) /\ A6 v0 v1 v2 v3 v4) (k : ∀ v0, ∀ v1, ∀ v2, ∀ v3, ∀ v4, A5 v0 v1 v2 v3 v4 -> A6 v0 v1 v2 v3 v4 -> G) : G := Exists.elim h fun v0 h0 => Exists.elim h0 fun v1 h1 => Exists.elim h1 fun v2 h2 => Exists.elim h2 fun v3 h3 => Exists.elim h3 fun v4 h4 => k v0 v1 v2 v3 v4 h4.1 h4.2
theorem x5_3.{u0, u1, u2, u3, u4} {a0 : Sort u0} {a1 : Sort u1} {a2 : Sort u2} {a3 : Sort u3} {a4 : Sort u4} {A5 : a0 -> a1 -> a2 -> a3 -> a4 -> Prop} {A6 : a0 -> a1 -> a2 -> a3 -> a4 -> Prop} {A7 : a0 -> a1 -> a2 -> a3 -> a4 -> Prop} {G : Prop} (h : ∃ v0, ∃ v1, ∃ v2, ∃ v3, ∃ v4, (A5 v0 v1 v2 v3 v4) /\ (A6 v0 v1 v2 v3 v4) /\ A7 v0 v1 v2 v3 v4) (k : ∀ v0, ∀ v1, ∀ v2, ∀ v3, ∀ v4, A5 v0 v1 v2 v3 v4 -> A6 v0 v1 v2 v3 v4 -> A7 v0 v1 v2 v3 v4 -> G) : G := Exists.elim h fun v0 h0 => Exists.elim h0 fun v1 h1 => Exists.elim h1 fun v2 h2 => Exists.elim h2 fun v3 h3 => Exists.elim h3 fun v4 h4 => k v0 v1 v2 v3 v4 h4.1 h4.2.1 h4.2.2
theorem x7_9.{u0, u1, u2, u3, u4, u5, u6} {a0 : Sort u0} {a1 : Sort u1} {a2 : Sort u2} {a3 : Sort u3} {a4 : Sort u4} {a5 : Sort u5} {a6 : Sort u6} {A7 : a0 -> a1 -> a2 -> a3 -> a4 -> a5 -> a6 -> Prop} {A8 : a0 -> a1 -> a2 -> a3 -> a4 -> a5 -> a6 -> Prop} {A9 : a0 -> a1 -> a2 -> a3 -> a4 -> a5 -> a6 -> Prop} {A10 : a0 -> a1 -> a2 -> a3 -> a4 -> a5 -> a6 -> Prop} {A11 : a0 -> a1 -> a2 -> a3 -> a4 -> a5 -> a6 -> Prop} {A12 : a0 -> a1 -> a2 -> a3 -> a4 -> a5 -> a6 -> Prop} {A13 : a0 -> a1 -> a2 -> a3 -> a4 -> a5 -> a6 -> Prop} {A14 : a0 -> a1 -> a2 -> a3 -> a4 -> a5 -> a6 -> Prop} {A15 : a0 -> a1 -> a2 -> a3 -> a4 -> a5 -> a6 -> Prop} {G : Prop} (h : ∃ v0, ∃ v1, ∃ v2, ∃ v3, ∃ v4, ∃ v5, ∃ v6, (A7 v0 v1 v2 v3 v4 v5 v6) /\ (A8 v0 v1 v2 v3 v4 v5 v6) /\ (A9 v0 v1 v2 v3 v4 v5 v6) /\ (A10 v0 v1 v2 v3 v4 v5 v6) /\ (A11 v0 v1 v2 v3 v4 v5 v6) /\ (A12 v0 v1 v2 v3 v4 v5 v6) /\ (A13 v0 v1 v2 v3 v4 v5 v6) /\ (A14 v0 v1 v2 v3 v4 v5 v6) /\ A15 v0 v1 v2 v3 v4 v5 v6) (k : ∀ v0, ∀ v1, ∀ v2, ∀ v3, ∀ v4, ∀ v5, ∀ v6, A7 v0 v1 v2 v3 v4 v5 v6 -> A8 v0 v1 v2 v3 v4 v5 v6 -> A9 v0 v1 v2 v3 v4 v5 v6 -> A10 v0 v1 v2 v3 v4 v5 v6 -> A11 v0 v1 v2 v3 v4 v5 v6 -> A12 v0 v1 v2 v3 v4 v5 v6 -> A13 v0 v1 v2 v3 v4 v5 v6 -> A14 v0 v1 v2 v3 v4 v5 v6 -> A15 v0 v1 v2 v3 v4 v5 v6 -> G) : G := Exists.elim h fun v0 h0 => Exists.elim h0 fun v1 h1 => Exists.elim h1 fun v2 h2 => Exists.elim h2 fun v3 h3 => Exists.elim h3 fun v4 h4 => Exists.elim h4 fun v5 h5 => Exists.elim h5 fun v6 h6 => k v0 v1 v2 v3 v4 v5 v6 h6.1 h6.2.1 h6.2.2.1 h6.2.2.2.1 h6.2.2.2.2.1 h6.2.2.2.2.2.1 h6.2.2.2.2.2.2.1 h6.2.2.2.2.2.2.2.1 h6.2.2.2.2.2.2.2.2
theorem xeaea.{u0, u2} {a0 : Sort u0} {a2 : Sort u2} {A1 : a0 -> Prop} {A3 : a0 -> a2 -> Prop} {G : Prop} (h : ∃ v0, (A1 v0) /\ (∃ v2, A3 v0 v2)) (k : ∀ v0, A1 v0 -> ∀ v2, A3 v0 v2 -> G) : G := Exists.elim h fun v0 h0 => Exists.elim h0.2 fun v2 h2 => k v0 h0.1 v2 h2
theorem xaeaa.{u1} {a1 : Sort u1} {A0 : Prop} {A2 : a1 -> Prop} {A3 : a1 -> Prop} {G : Prop} (h : (A0) /\ (∃ v1, (A2 v1) /\ A3 v1)) (k : A0 -> ∀ v1, A2 v1 -> A3 v1 -> G) : G := Exists.elim h.2 fun v1 h1 => k h.1 v1 h1.1 h1.2
theorem xaaea.{u2} {a2 : Sort u2} {A0 : Prop} {A1 : Prop} {A3 : a2 -> Prop} {G : Prop} (h : (A0) /\ (A1) /\ (∃ v2, A3 v2)) (k : A0 -> A1 -> ∀ v2, A3 v2 -> G) : G := Exists.elim h.2.2 fun v2 h2 => k h.1 h.2.1 v2 h2
theorem xeaaea.{u0, u3} {a0 : Sort u0} {a3 : Sort u3} {A1 : a0 -> Prop} {A2 : a0 -> Prop} {A4 : a0 -> a3 -> Prop} {G : Prop} (h : ∃ v0, (A1 v0) /\ (A2 v0) /\ (∃ v3, A4 v0 v3)) (k : ∀ v0, A1 v0 -> A2 v0 -> ∀ v3, A4 v0 v3 -> G) : G := Exists.elim h fun v0 h0 => Exists.elim h0.2.2 fun v3 h3 => k v0 h0.1 h0.2.1 v3 h3
theorem xaeeaa.{u1, u2} {a1 : Sort u1} {a2 : Sort u2} {A0 : Prop} {A3 : a1 -> a2 -> Prop} {A4 : a1 -> a2 -> Prop} {G : Prop} (h : (A0) /\ (∃ v1, ∃ v2, (A3 v1 v2) /\ A4 v1 v2)) (k : A0 -> ∀ v1, ∀ v2, A3 v1 v2 -> A4 v1 v2 -> G) : G := Exists.elim h.2 fun v1 h1 => Exists.elim h1 fun v2 h2 => k h.1 v1 v2 h2.1 h2.2
theorem xaeaaa.{u1} {a1 : Sort u1} {A0 : Prop} {A2 : a1 -> Prop} {A3 : a1 -> Prop} {A4 : a1 -> Prop} {G : Prop} (h : (A0) /\ (∃ v1, (A2 v1) /\ (A3 v1) /\ A4 v1)) (k : A0 -> ∀ v1, A2 v1 -> A3 v1 -> A4 v1 -> G) : G := Exists.elim h.2 fun v1 h1 => k h.1 v1 h1.1 h1.2.1 h1.2.2
theorem xaaeaa.{u2} {a2 : Sort u2} {A0 : Prop} {A1 : Prop} {A3 : a2 -> Prop} {A4 : a2 -> Prop} {G : Prop} (h : (A0) /\ (A1) /\ (∃ v2, (A3 v2) /\ A4 v2)) (k : A0 -> A1 -> ∀ v2, A3 v2 -> A4 v2 -> G) : G := Exists.elim h.2.2 fun v2 h2 => k h.1 h.2.1 v2 h2.1 h2.2
theorem xeaaeaa.{u0, u3} {a0 : Sort u0} {a3 : Sort u3} {A1 : a0 -> Prop} {A2 : a0 -> Prop} {A4 : a0 -> a3 -> Prop} {A5 : a0 -> a3 -> Prop} {G : Prop} (h : ∃ v0, (A1 v0) /\ (A2 v0) /\ (∃ v3, (A4 v0 v3) /\ A5 v0 v3)) (k : ∀ v0, A1 v0 -> A2 v0 -> ∀ v3, A4 v0 v3 -> A5 v0 v3 -> G) : G := Exists.elim h fun v0 h0 => Exists.elim h0.2.2 fun v3 h3 => k v0 h0.1 h0.2.1 v3 h3.1 h3.2
theorem xaeeaaa.{u1, u2} {a1 : Sort u1} {a2 : Sort u2} {A0 : Prop} {A3 : a1 -> a2 -> Prop} {A4 : a1 -> a2 -> Prop} {A5 : a1 -> a2 -> Prop} {G : Prop} (h : (A0) /\ (∃ v1, ∃ v2, (A3 v1 v2) /\ (A4 v1 v2) /\ A5 v1 v2)) (k : A0 -> ∀ v1, ∀ v2, A3 v1 v2 -> A4 v1 v2 -> A5 v1 v2 -> G) : G := Exists.elim h.2 fun v1 h1 => Exists.elim h1 fun v2 h2 => k h.1 v1 v2 h2.1 h2.2.1 h2.2.2
theorem xeeaaeaa.{u0, u1, u4} {a0 : Sort u0} {a1 : Sort u1} {a4 : Sort u4} {A2 : a0 -> a1 -> Prop} {A3 : a0 -> a1 -> Prop} {A5 : a0 -> a1 -> a4 -> Prop} {A6 : a0 -> a1 -> a4 -> Prop} {G : Prop} (h : ∃ v0, ∃ v1, (A2 v0 v1) /\ (A3 v0 v1) /\ (∃ v4, (A5 v0 v1 v4) /\ A6 v0 v1 v4)) (k : ∀ v0, ∀ v1, A2 v0 v1 -> A3 v0 v1 -> ∀ v4, A5 v0 v1 v4 -> A6 v0 v1 v4 -> G) : G := Exists.elim h fun v0 h0 => Exists.elim h0 fun v1 h1 => Exists.elim h1.2.2 fun v4 h4 => k v0 v1 h1.1 h1.2.1 v4 h4.1 h4.2
theorem xeeaaeaaa.{u0, u1, u4} {a0 : Sort u0} {a1 : Sort u1} {a4 : Sort u4} {A2 : a0 -> a1 -> Prop} {A3 : a0 -> a1 -> Prop} {A5 : a0 -> a1 -> a4 -> Prop} {A6 : a0 -> a1 -> a4 -> Prop} {A7 : a0 -> a1 -> a4 -> Prop} {G : Prop} (h : ∃ v0, ∃ v1, (A2 v0 v1) /\ (A3 v0 v1) /\ (∃ v4, (A5 v0 v1 v4) /\ (A6 v0 v1 v4) /\ A7 v0 v1 v4)) (k : ∀ v0, ∀ v1, A2 v0 v1 -> A3 v0 v1 -> ∀ v4, A5 v0 v1 v4 -> A6 v0 v1 v4 -> A7 v0 v1 v4 -> G) : G := Exists.elim h fun v0 h0 => Exists.elim h0 fun v1 h1 => Exists.elim h1.2.2 fun v4 h4 => k v0 v1 h1.1 h1.2.1 v4 h4.1 h4.2.1 h4.2.2
open Option renaming bind_eq_some_iff → zaa, map_eq_some_iff → zab, bind_some → zbj, map_some → zbv, bind_none → zgv, getD_some → zji, map_none → zjp
open PySem renaming wpAny_bind → zac, wpAny_pure → zag, sizeLine_eq → zbh, wpAny_holding → zby, wpAny_Call_Name_kw → zdf, sizeLine_eq → zdo, wpAny_passesOwn → zdw, wpAny_setState_of → zdy, wpAny_newObj_type → zdz, mem_of_lookup → zea, codeAny_builtin → zek, wpAny_truthy_bool → zes, builtinLookup_eq_fast → zeu, wpAny_call_entry → zey, wpAny_askSetting → zez, wpAny_mono → zfd, wpAny_specialOf → zfk, wpAny_standAt → zga, plainId_quiet → zgb, typeLookup_type → zgl, codeAny_mono → zgm, isSubtype_type → zgu, wpAny_pyIter_list → zho, wpAny_typeOf → zhu, wpAny_isInstance → zib, wpAny_forIn_list → zic, wpAny_eqBool_int → zid, wpAny_execs_nil → zik, wpAny_setField → zir, wpAny_comprehension_free → zje, wpAny_pyNext_list_item → zjl, wpAny_pyNext_list_end → zjv, wpAny_eqIsQuiet_tuple → zjw, seqIndex_neg → zjx
open List renaming length_map → zad, getElem?_eq_getElem → zae, length_cons → zah, getElem?_map → zak, getElem?_eq_some_iff → zal, mem_cons → zan, getElem?_append_right → zao, length_append → zap, mem_of_getElem? → zar, size_toArray → zau, mem_singleton → zaw, getElem?_append_left → zax, getD_eq_getElem?_getD → zaz, map_cons → zba, mem_map → zbd, mem_map_of_mem → zbg, mem_cons_of_mem → zbl, getElem?_set_ne → zbm, mem_append_right → zbo, length_nil → zbq, length_replicate → zbs, length_reverse → zbu, map_append → zbw, getElem?_set_self → zbx, reverse_cons → zbz, mem_cons_self → zca, mem_append → zcc, length_set → zcd, pairwise_cons → zcf, getElem?_replicate → zcg, getElem?_cons_succ → zch, append_assoc → zck, mem_range → zcl, nil_append → zcm, map_map → zcn, length_dropLast → zcs, getElem?_of_mem → zct, pairwise_map → zcv, lookup_cons → zcy, length_drop → zcz, map_nil → zdb, drop_eq_getElem_cons → zdd, nodup_cons → zdh, append_nil → zdi, all_cons → zdk, dropLast_concat_getLast → zdp, dropLast_eq_take → zdq, mem_append_left → zdu, length_take → zeb, cons_append → zec, mem_filterMap → zef, length_range → zej, take_append_drop → zen, getElem?_eq_none → zeo, not_mem_nil → zer, map_congr_left → zev, filterMap_cons → zew, append_of_mem → zfa, pairwise_iff_getElem → zfh, getLast?_cons_cons → zfq, mem_reverse → zfs, getElem_inj → zft, getElem?_dropLast → zfw, mem_filter → zfx, dropLast_sublist → zfy, mem_of_getLast? → zgi, getElem?_drop → zgo, getLast?_map → zgw, ext_getElem? → zgx, reverse_nil → zhd, getElem_mem → zhe, of_mem_zip → zhl, foldl_cons → zhm, nodup_iff_pairwise_ne → zhs, exists_cons_of_ne_nil → zht, nodup_nil → zhw, mem_or_eq_of_mem_set → zhx, head?_map → zhy, drop_zero → zhz, getElem?_take_of_lt → zie, pairwise_singleton → zig, eraseIdx_cons_succ → zih, take_of_length_le → zil, pairwise_reverse → zin, length_singleton → zio, range_eq_range' → zix, pairwise_append → ziy, getLast?_concat → ziz, dropLast_subset → zja, dropLast_concat → zjb, getElem?_take → zjj, nodup_append → zjs, mem_of_head? → zjt, range'_succ → zkb, nodup_range → zkc, drop_length → zkd
open PySem.Heap renaming get?_push_of_some → zaf, lt_size → zam, get?_push_size → zbe, get?_update_self → zco, get?_update_other → zdn, size_push → zia
open Nat renaming le_refl → zai, lt_of_lt_of_le → zaq, ne_of_lt → zbc, mod_eq_of_lt → zbn, zero_le → zbr, le_trans → zcb, pow_le_pow_right → zdg, mod_lt → zel, add_mod → zem, sub_self → zeq, zero_add → zff, le_of_lt → zfg, lt_succ_of_lt → zfo, add_mod_right → zfp, ne_of_gt → zge, lt_or_ge → zgf, pow_succ → zhc, lt_succ_self → zhj, mod_mod → zhr, div_div_eq_div_mul → zim, succ_pos → ziu, le_of_eq → ziv, add_comm → ziw, mod_eq_sub_mod → zjq, eq_zero_or_pos → zjr, lt_trichotomy → zjz, le_of_lt_succ → zka
open Bool renaming and_eq_true → zaj, false_ne_true → zav, false_eq_true → zay, eq_iff_iff → zex, not_true → zfr, or_eq_true → zfz, not_false → zgk, and_true → zgq, and_self → zgr, true_and → zij, beq_eq_decide_eq → ziq, eq_false_iff → zju
open Array renaming getElem?_toList → zas, getElem?_eq_getElem → zat, length_toList → zbb, getElem?_eq_some_iff → zbt, getElem_toList → zde, toList_push → zfn, toList_inj → zha, forIn_toList → zjf, append_assoc → zjg
open Int renaming emod_nonneg → zbf, emod_lt_of_pos → zbi, natAbs_natCast → zbp, le_of_lt → zcp, mul_fdiv_cancel_left → zcq, mul_nonpos_of_nonneg_of_nonpos → zcx, gcd_eq_one_iff → zdc, mul_ne_zero → zdr, toNat_natCast → zdt, fmod_eq_emod_of_nonneg → zdv, gcd_mul_right_right_of_gcd_eq_one → zdx, natAbs_mul → zed, dvd_mul_of_dvd_right → zee, mul_nonneg → zep, fdiv_eq_ediv_of_nonneg → zfb, eq_of_mul_eq_mul_right → zfc, mul_comm → zfi, lt_or_eq_of_le → zfj, mul_pos → zfu, le_refl → zfv, zero_mul → zgg, mul_eq_zero → zgh, not_lt → zgj, mul_nonpos_of_nonpos_of_nonneg → zgp, dvd_trans → zgs, mul_le_mul_of_nonneg_right → zhf, zero_add → zjc, add_zero → zjd, mul_one → zjk, gcd_dvd_right → zke
open Option.some renaming inj → zbk
open PyProof.Rows renaming callWith_type1 → zce, callWith_builtin1 → zgd, listUpdate_at → zhg, assignInOrder_cons → zhh, subscriptTail_builtinR → zjm
open Rat renaming num_divInt_den → zci, intCast_mul → zcj, mul_lt_mul_right → zcu, mul_pos → zdl, intCast_lt_intCast → zei, divInt_add_divInt → zgc, divInt_eq_div → zgz, mul_le_mul_of_nonneg_right → zhb, intCast_sub → zhp, divInt_eq_divInt_iff → zif, divInt_mul_divInt → zis, mul_div_cancel → zjn, div_mul_cancel → zjo
open PySem.Heap.SameBut renaming update → zcr
open Classical renaming byContradiction → zcw
open Ne renaming symm → zda
open PySem.SetTable renaming insertAt_perm → zdj, toList_insertAt → zhi
open PyProof.Rows.F renaming plain_set_update_loop → zdm, entry_set_update_loop → zfm
open PySem.Around renaming under_plainId → zds
open List.Perm renaming refl → zeg
open PySem.F renaming called_set → zeh, plainAttrs_list → zhk, plain_extend_loop → zkf
open PySem.W renaming kia_one → zet, mg_of → zhq, cellsFrom_some → zhv
open PySem.Obj renaming data_mapFields → zfe, isFreed_of_fields → zit, cls_mapFields → zjy
open PySem.Value renaming isInt_shape → zfl
open PySem.Calls renaming spliced_cons → zgn, spliced_nil → zgt, Name_function_global → zhn, callWith_builtin → zii
open PySem.IsTupleKey renaming inj → zgy
open Prod renaming ext → zjh
namespace L2
open PySem PySem.Spec PyProof.Rows
noncomputable abbrev Key := Sum Int Str
noncomputable def keyIs : Key -> Value -> Bool
 | .inl k, v => Value.isInt k v
 | .inr x, v => Value.isStrOf x v
noncomputable def keyH (w : World) : Key -> Int
 | .inl k => hashInt k
 | .inr x => hashStr w x
theorem zla : ∀ {k : Key} {v : Value}, keyIs k v = true -> (∃ i t, k = Sum.inl i /\ v = Value.int i t) ∨ (∃ x t, k = Sum.inr x /\ v = Value.str x t)
 | .inl i, v, h => by
  refine x1_1 (zfl (k := i) (v := v) h) fun t e => ?_
  exact .inl ⟨i, t, rfl, e⟩
 | .inr x, v, h => by
  refine x1_1 (Value.isStrOf_shape (x := x) (v := v) h) fun t e => ?_
  exact .inr ⟨x, t, rfl, e⟩
theorem key_ll (a b : Int) : decide ((Sum.inl a : Key) = Sum.inl b) = (a == b) := by
 by_cases e : a = b
 ·subst e; simp
 ·have h : ¬ (Sum.inl a : Key) = Sum.inl b := fun q => e (Sum.inl.inj q)
  rw [decide_eq_false h]
  exact (beq_eq_false_iff_ne.mpr e).symm
theorem key_rr (a b : Str) : decide ((Sum.inr a : Key) = Sum.inr b) = decide (a = b) := by
 by_cases e : a = b
 ·subst e; simp
 ·have h : ¬ (Sum.inr a : Key) = Sum.inr b := fun q => e (Sum.inr.inj q)
  rw [decide_eq_false h, decide_eq_false e]
theorem key_lr (a : Int) (b : Str) : decide ((Sum.inl a : Key) = Sum.inr b) = false := decide_eq_false (fun q => nomatch q)
theorem key_rl (a : Str) (b : Int) : decide ((Sum.inr a : Key) = Sum.inl b) = false := decide_eq_false (fun q => nomatch q)
noncomputable def yei (prog : Program) (w : World) : PySem.KeyKind prog w Key where
 is := keyIs
 hash := keyH w
 inj := fun v a b ha hb => by
  rcases zla ha with ⟨i, t, rfl, rfl⟩ | ⟨x, t, rfl, rfl⟩
  ·rcases zla hb with ⟨j, u, rfl, e⟩ | ⟨y, u, rfl, e⟩
   ·injection e with e1 _; rw [e1]
   ·exact nomatch e
  ·rcases zla hb with ⟨j, u, rfl, e⟩ | ⟨y, u, rfl, e⟩
   ·exact nomatch e
   ·injection e with e1 _; rw [e1]
 byValue := fun k v h => by
  rcases zla h with ⟨i, t, rfl, rfl⟩ | ⟨x, t, rfl, rfl⟩ <;> rfl
 pyHash := fun hv h => by
  rcases zla hv with ⟨i, t, rfl, rfl⟩ | ⟨x, t, rfl, rfl⟩
  ·exact wpAny_pyHash_int h
  ·exact wpAny_pyHash_str h
 eqBool := fun hu hv h => by
  rcases zla hu with ⟨i, t, rfl, rfl⟩ | ⟨x, t, rfl, rfl⟩
  ·rcases zla hv with ⟨j, u, rfl, rfl⟩ | ⟨y, u, rfl, rfl⟩
   ·rw [key_ll] at h; exact zid h
   ·rw [key_lr] at h; exact SeqAt.EqAt.int_str i t y u _ _ _ _ h
  ·rcases zla hv with ⟨j, u, rfl, rfl⟩ | ⟨y, u, rfl, rfl⟩
   ·rw [key_rl] at h; exact SeqAt.EqAt.str_int x t j u _ _ _ _ h
   ·rw [key_rr] at h; exact wpAny_eqBool_str h
 «strs» := fun k x t v h => by
  rcases zla h with ⟨i, u, rfl, e⟩ | ⟨y, u, rfl, e⟩
  ·exact nomatch e
  ·injection e with e1 _
   subst e1
   cases v <;> rfl
end L2
namespace L2
open PySem PySem.Spec PyProof.Rows
set_option genInjectivity true in
inductive V where
 | non | bl (b : Bool) | int (i : Int) | str (x : Str) | byt (b : Array UInt8) | flt (b : UInt64) | ref (a : Addr) | ty (n : String)
 deriving DecidableEq
noncomputable def RelV : V -> Value -> Prop
 | .non, u => u = Value.none
 | .bl b, u => u = Value.bool b
 | .int i, u => ∃ t, u = Value.int i t
 | .str x, u => ∃ t, u = Value.str x t
 | .byt b, u => ∃ t, u = Value.bytes b t
 | .flt b, u => ∃ t, u = Value.float b t
 | .ref a, u => u = Value.ref a
 | .ty n, u => u = Value.type n
noncomputable abbrev Vals : List V -> List Value -> Prop := Paired RelV
theorem Vals.length {xs : List V} {us : List Value} (r : Vals xs us) : xs.length = us.length := Paired.length r
theorem Vals.get : ∀ {xs : List V} {us : List Value} {i : Nat} {x : V}, Vals xs us -> xs[i]? = some x -> ∃ u, us[i]? = some u /\ RelV x u
 | _, _, _, _, .nil, e => by simp at e
 | _, _, 0, _, .cons r _, e => by simp at e; subst e; exact ⟨_, rfl, r⟩
 | _, _, i + 1, x, .cons _ t, e => by
  refine x1_2 (Vals.get (i := i) (x := x) t (by simpa using e)) fun u h1 h2 => ?_
  exact ⟨u, by simpa using h1, h2⟩
theorem Vals.set {x : V} {u : Value} (r : RelV x u) : ∀ {xs : List V} {us : List Value} (i : Nat), Vals xs us -> Vals (xs.set i x) (us.set i u)
 | _, _, _, .nil => .nil
 | _, _, 0, .cons _ t => .cons r t
 | _, _, i + 1, .cons q t => .cons q (Vals.set r i t)
theorem Vals.append : ∀ {xs ys : List V} {us ws : List Value}, Vals xs us -> Vals ys ws -> Vals (xs ++ ys) (us ++ ws)
 | _, _, _, _, .nil, s => s
 | _, _, _, _, .cons r t, s => .cons r (Vals.append t s)
theorem Vals.take : ∀ {xs : List V} {us : List Value} (n : Nat), Vals xs us -> Vals (xs.take n) (us.take n)
 | _, _, 0, _ => .nil
 | _, _, _ + 1, .nil => .nil
 | _, _, n + 1, .cons r t => .cons r (Vals.take n t)
theorem Vals.drop : ∀ {xs : List V} {us : List Value} (n : Nat), Vals xs us -> Vals (xs.drop n) (us.drop n)
 | _, _, 0, r => r
 | _, _, _ + 1, .nil => .nil
 | _, _, n + 1, .cons _ t => Vals.drop n t
noncomputable def RelO : Option V -> Option Value -> Prop
 | some v, some u => RelV v u
 | none, none => True
 | _, _ => False
noncomputable def KV {κ : Type} : List (κ × V) -> List (κ × Value) -> Prop := Paired fun (p : κ × V) (q : κ × Value) => p.1 = q.1 /\ RelV p.2 q.2
noncomputable def kV : Key -> V
 | .inl i => .int i
 | .inr x => .str x
inductive HO where
  | lst (xs : List V)
  | tup (xs : List V)
  | dK (kvs : List (Key × V)) | dT (kvs : List (List Key × V))
  | set (S : Int -> Bool) (n : Nat)
  | ins (C dx : Addr) (fs : List (Str × V))
  | own (x : Addr)
  | xd (fs : List (Str × V))
  | met (f x : Addr)
  | rng (lo hi : Int)
  | frz (o : Obj) (u : HO)
  | tbl (ps : Array Value)
  | ext (φ : Heap -> Prop)
noncomputable abbrev Hp := Addr -> Option HO
noncomputable def upd (H : Hp) (a : Addr) (o : HO) : Hp := fun b => if b = a then some o else H b
theorem zko {H : Hp} {a : Addr} {o : HO} : upd H a o a = some o := by unfold upd; rw [if_pos rfl]
theorem zkp {H : Hp} {a b : Addr} {o : HO} (h : b ≠ a) : upd H a o b = H b := by unfold upd; rw [if_neg h]
theorem znb {H : Hp} {a b : Addr} {o : HO} (h : H a = some o) (h' : H b = none) : a ≠ b := by
 intro e; subst e; rw [h] at h'; cases h'
section
variable (P : Program) (w : World)
noncomputable def ObjOk (H : Hp) (h : Heap) (a : Addr) : HO -> Prop
 | .lst xs => xs.length <= sizeLine /\ ∃ (its : List Value) (n : Nat), Vals xs its /\ h.get? a = some { cls := .type "list", data := .seq its.toArray n }
 | .tup xs => xs.length <= sizeLine /\ ∃ its : List Value, Vals xs its /\ IsTup h a its.toArray
 | .dK kvs => kvs.length <= sizeLine /\ (a == sysModules) = false /\ ∃ vs, KV kvs vs /\ h.DictOf (yei P w) a vs
 | .dT kvs => kvs.length <= sizeLine /\ (a == sysModules) = false /\ ∃ xs : List (List Key × Addr × Value),
   Paired (fun (p : List Key × V) (q : List Key × Addr × Value) => p.1 = q.1 /\ H q.2.1 = some (.tup (p.1.map kV)) /\ RelV p.2 q.2.2) kvs xs /\
   ∃ o es ep, h.get? a = some o /\ o.ExactDict /\ o.data = .dict es ep /\ es.toList = xs.map (entryOfKey (tupleKind (yei P w))) /\ (xs.map (·.1)).Nodup
 | .set S n => h.SetOf (intKind P w) a S n
 | .ins C dx fs => H dx = some (.own a) /\ fs.length <= 1000 /\ dx ≠ a /\ h.get? a = some (PySem.W.instObj C dx) /\
   ∃ mA, h.Ns1 dx mA /\ (∀ f, RelO (fs.lookup f) (mA f)) /\ PySem.Within mA (fs.map (·.1))
 | .own _ => ∃ o, h.get? a = some o
 | .xd fs => ∃ mA, h.Ns1 a mA /\ ∀ f, RelO (fs.lookup f) (mA f)
 | .rng lo hi => ∃ t u v, h.get? a = some { cls := .type "range", data := .fields #[.int lo t, .int hi u, .int 1 v] }
 | .frz o u => h.get? a = some o /\ ObjOk H h a u
 | .tbl ps => h.get? a = some { cls := .none, data := .fields ps }
 | .met f x => h.get? a = some (PySem.W.methodObj (.ref f) (.ref x))
 | .ext φ => φ h /\ (∃ o, h.get? a = some o) /\ ∀ h1 h2 : Heap, φ h1 -> (∀ o, h1.get? a = some o -> h2.get? a = some o) -> φ h2
noncomputable def HOk (H : Hp) (h : Heap) : Prop := ∀ a o, H a = some o -> ObjOk P w H h a o
end
section
variable {P : Program} {w : World} {H H' : Hp} {h h' : Heap} {a : Addr} {o : HO}
theorem ObjOk.lt (x : ObjOk P w H h a o) : a < h.objs.size := by
 cases o with
 | lst xs => refine xaeeaa x fun _ _ _ _ e => ?_; clear x; exact zam e
 | tup xs => refine xaeaa x fun _ _ _ p => ?_; clear x; exact p.lt
 | dK kvs => obtain ⟨_, _, _, _, o, _, _, e, _⟩ := x; exact zam e
 | dT kvs => obtain ⟨_, _, _, _, o, _, _, e, _⟩ := x; exact zam e
 | set S n => refine x4_2 x fun o _ _ _ e _ => ?_; clear x; exact zam e
 | ins C dx fs => refine x0_5 x fun _ _ _ e _ => ?_; clear x; exact zam e
 | own y => refine x1_1 x fun _ e => ?_; clear x; exact zam e
 | xd fs => obtain ⟨_, ⟨_, _, _, e, _⟩, _⟩ := x; exact zam e
 | rng lo hi => refine x3_1 x fun _ _ _ e => ?_; clear x; exact zam e
 | frz ob u => refine x0_2 x fun e _ => ?_; clear x; exact zam e
 | tbl ps => exact zam (show h.get? a = some _ from x)
 | met f y => exact zam (show h.get? a = some _ from x)
 | ext φ => obtain ⟨_, ⟨_, e⟩, _⟩ := x; exact zam e
theorem Paired.mapP {α β : Type} {F G : α -> β -> Prop} {l₁ : List α} {l₂ : List β} (h : Paired F l₁ l₂) (f : ∀ a b, F a b -> G a b) : Paired G l₁ l₂ := by
 induction h with
 | nil => exact .nil
 | cons r _ ih => exact .cons (f _ _ r) ih
theorem ObjOk.stay (x : ObjOk P w H h a o) (k : ∀ b u, (b = a ∨ H b = some (.own a)) -> h.get? b = some u -> h'.get? b = some u)
  (ho : ∀ b, H b = some (.own a) -> H' b = some (.own a)) (ht : ∀ b xs, H b = some (.tup xs) -> H' b = some (.tup xs)) : ObjOk P w H' h' a o := by
 induction o with
 | lst xs => refine xaeeaa x fun z its n r e => ?_; clear x; exact ⟨z, its, n, r, k _ _ (.inl rfl) e⟩
 | tup xs => obtain ⟨z, its, r, ob, e, c⟩ := x; exact ⟨z, its, r, ob, k _ _ (.inl rfl) e, c⟩
 | dK kvs => obtain ⟨z, y, vs, r, ob, es, ep, e, c⟩ := x; exact ⟨z, y, vs, r, ob, es, ep, k _ _ (.inl rfl) e, c⟩
 | dT kvs =>
  obtain ⟨z, y, xs, r, ob, es, ep, e, c⟩ := x
  exact ⟨z, y, xs, Paired.mapP r fun p q z => ⟨z.1, ht _ _ z.2.1, z.2.2⟩, ob, es, ep, k _ _ (.inl rfl) e, c⟩
 | set S n => refine x4_2 x fun ob es ep t e c => ?_; clear x; exact ⟨ob, es, ep, t, k _ _ (.inl rfl) e, c⟩
 | ins C dx fs =>
  obtain ⟨d, z, ne, e, mA, ⟨od, es, ep, e2, c⟩, r⟩ := x
  exact ⟨ho _ d, z, ne, k _ _ (.inl rfl) e, mA, ⟨od, es, ep, k _ _ (.inr d) e2, c⟩, r⟩
 | own y => refine x1_1 x fun ob e => ?_; clear x; exact ⟨ob, k _ _ (.inl rfl) e⟩
 | xd fs => obtain ⟨mA, ⟨od, es, ep, e, c⟩, r⟩ := x; exact ⟨mA, ⟨od, es, ep, k _ _ (.inl rfl) e, c⟩, r⟩
 | rng lo hi => refine x3_1 x fun t u v e => ?_; clear x; exact ⟨t, u, v, k _ _ (.inl rfl) e⟩
 | frz ob u ih => refine x0_2 x fun e q => ?_; clear x; exact ⟨k _ _ (.inl rfl) e, ih q⟩
 | tbl ps =>
  have e : h.get? a = some { cls := .none, data := .fields ps } := x
  show h'.get? a = some { cls := .none, data := .fields ps }
  exact k a _ (.inl rfl) e
 | met f y =>
  have e : h.get? a = some (PySem.W.methodObj (.ref f) (.ref y)) := x
  show h'.get? a = some (PySem.W.methodObj (.ref f) (.ref y))
  exact k a _ (.inl rfl) e
 | ext φ => obtain ⟨p, ⟨o, e⟩, st⟩ := x; exact ⟨st _ _ p fun o q => k _ _ (.inl rfl) q, ⟨o, k _ _ (.inl rfl) e⟩, st⟩
theorem HOk.lt (x : HOk P w H h) (e : H a = some o) : a < h.objs.size := (x a o e).lt
theorem HOk.fresh (x : HOk P w H h) (e : h.objs.size <= a) : H a = none := by
 cases q : H a with
 | none => rfl
 | some u => exact absurd (zaq (x.lt q) e) (Nat.lt_irrefl _)
theorem HOk.kept (x : HOk P w H h) (k : ∀ b u, h.get? b = some u -> h'.get? b = some u) : HOk P w H h' := fun a o e =>
 (x a o e).stay (fun b u _ q => k b u q) (fun _ q => q) fun _ _ q => q
theorem HOk.laid (x : HOk P w H h) (k : ∀ b u, h.get? b = some u -> h'.get? b = some u) (hp : h.objs.size <= a) (new : ObjOk P w (upd H a o) h' a o) : HOk P w (upd H a o) h' := fun b u e => by
 have hn := x.fresh hp
 by_cases hb : b = a
 ·subst hb; rw [zko] at e; cases e; exact new
 ·rw [zkp hb] at e
  exact (x b u e).stay (fun c v _ q => k c v q) (fun c q => by rw [zkp (znb q hn)]; exact q) fun c xs q => by rw [zkp (znb q hn)]; exact q
end
noncomputable def Rd (H : Hp) (a : Addr) (u : HO) : Prop := H a = some u ∨ ∃ o, H a = some (.frz o u)
theorem Rd.of {H : Hp} {a : Addr} {u : HO} (h : H a = some u) : Rd H a u := .inl h
theorem Rd.ok {P : Program} {w : World} {H : Hp} {h : Heap} {a : Addr} {u : HO} (r : Rd H a u) (x : HOk P w H h) : ObjOk P w H h a u := by
 rcases r with r | ⟨o, r⟩
 ·exact x a u r
 ·refine x0_2 (x a _ r) fun _ q => ?_
  exact q
noncomputable def Mut : Option HO -> Prop
 | some (.lst _) => True
 | some (.dK _) => True
 | some (.dT _) => True
 | some (.set _ _) => True
 | some (.ins _ _ _) => True
 | some (.ext _) => True
 | _ => False
section
variable {P : Program} {w : World} {H : Hp} {h h' : Heap} {x e : Addr} {o' : HO}
theorem HOk.write (ok : HOk P w H h) (mu : Mut (H x)) (he : e = x ∨ H e = some (.own x)) (k : ∀ b u, b ≠ e -> h.get? b = some u -> h'.get? b = some u) (heo : ∃ u, h'.get? e = some u)
  (new : ObjOk P w (upd H x o') h' x o') : HOk P w (upd H x o') h' := fun b u q => by
 have nown : ∀ c y, H c = some (.own y) -> c ≠ x := fun c y r z => by subst z; rw [r] at mu; exact mu
 have ntup : ∀ c xs, H c = some (.tup xs) -> c ≠ x := fun c xs r z => by subst z; rw [r] at mu; exact mu
 by_cases hb : b = x
 ·subst hb; rw [zko] at q; cases q; exact new
 ·rw [zkp hb] at q
  by_cases hbe : b = e
  ·have q' : H b = some (.own x) := by
    rcases he with z | z
    ·exact absurd (hbe.trans z) hb
    ·rw [hbe]; exact z
   rw [q] at q'; cases q'
   refine x1_1 heo fun v hv => ?_; clear heo
   exact ⟨v, by rw [hbe]; exact hv⟩
  ·refine (ok b u q).stay (fun c v hc r => k c v ?_ r) (fun c r => by rw [zkp (nown c b r)]; exact r) fun c xs r => by rw [zkp (ntup c xs r)]; exact r
   rcases hc with rfl | hc
   ·exact hbe
   ·rintro rfl
    rcases he with z | z
    ·exact nown c b hc z
    ·rw [hc] at z; cases z; exact hb rfl
end
structure Un (fs ex : List Addr) (H H' : Hp) (h h' : Heap) : Prop where
 keep : ∀ b o, h.get? b = some o -> H b = none -> b ∉ fs -> b ∉ ex -> h'.get? b = some o
 slot : ∀ b o, h.get? b = some o -> H b = none -> b ∈ fs -> b ∉ ex -> ∃ sl, h'.get? b = some { o with slots := sl }
 free : ∀ b o, h.get? b = some o -> H b = none -> b ∉ ex -> H' b = none
 there : ∀ b o, h.get? b = some o -> b ∉ ex -> ∃ o', h'.get? b = some o'
 tups : ∀ b xs, H b = some (.tup xs) -> H' b = some (.tup xs)
 frzs : ∀ b o u, H b = some (.frz o u) -> H' b = some (.frz o u)
 tbls : ∀ b ps, H b = some (.tbl ps) -> ∃ more, H' b = some (.tbl (ps ++ more))
section
variable {fs fs' ex ex' : List Addr} {H H1 H2 : Hp} {h h1 h2 h' : Heap} {a x e : Addr} {o : HO}
theorem Un.any (u : Un fs ex H H1 h h1) {b : Addr} {ob : Obj} (q : h.get? b = some ob) (n : H b = none) (hx : b ∉ ex) : ∃ sl, h1.get? b = some { ob with slots := sl } := by
 by_cases hb : b ∈ fs
 ·exact u.slot b ob q n hb hx
 ·exact ⟨ob.slots, u.keep b ob q n hb hx⟩
theorem Un.trans (a : Un fs ex H H1 h h1) (b : Un fs ex H1 H2 h1 h2) : Un fs ex H H2 h h2 where
 keep := fun c ob q n hc hx => b.keep c ob (a.keep c ob q n hc hx) (a.free c ob q n hx) hc hx
 slot := fun c ob q n hc hx => by
  refine x1_1 (a.slot c ob q n hc hx) fun sl e1 => ?_
  refine x1_1 (b.slot c _ e1 (a.free c ob q n hx) hc hx) fun sl' e2 => ?_
  exact ⟨sl', e2⟩
 free := fun c ob q n hx => by
  refine x1_1 (a.there c ob q hx) fun o' e1 => ?_
  exact b.free c o' e1 (a.free c ob q n hx) hx
 there := fun c ob q hx => by
  refine x1_1 (a.there c ob q hx) fun o' e1 => ?_
  exact b.there c o' e1 hx
 tups := fun c xs q => b.tups c xs (a.tups c xs q)
 frzs := fun c ob xs q => b.frzs c ob xs (a.frzs c ob xs q)
 tbls := fun c ps q => by
  refine x1_1 (a.tbls c ps q) fun m1 e1 => ?_
  refine x1_1 (b.tbls c _ e1) fun m2 e2 => ?_
  exact ⟨m1 ++ m2, by rw [e2, zjg]⟩
theorem Un.kept (k : ∀ b u, h.get? b = some u -> h'.get? b = some u) : Un fs ex H H h h' :=
 ⟨fun b ob q _ _ _ => k b ob q, fun b ob q _ _ _ => ⟨ob.slots, k b ob q⟩, fun _ _ _ n _ => n, fun b ob q _ => ⟨ob, k b ob q⟩, fun _ _ q => q, fun _ _ _ q => q, fun _ ps q => ⟨#[], by rw [q]; simp⟩⟩
theorem Un.refl : Un fs ex H H h h := Un.kept fun _ _ q => q
theorem Un.laid (k : ∀ b u, h.get? b = some u -> h'.get? b = some u) (hp : h.objs.size <= a) (hn : H a = none) : Un fs ex H (upd H a o) h h' where
 keep := fun b u q _ _ _ => k b u q
 slot := fun b u q _ _ _ => ⟨u.slots, k b u q⟩
 free := fun b u q n _ => by rw [zkp (zbc (zaq (zam q) hp))]; exact n
 there := fun b u q _ => ⟨u, k b u q⟩
 tups := fun b xs q => by rw [zkp (znb q hn)]; exact q
 frzs := fun b u xs q => by rw [zkp (znb q hn)]; exact q
 tbls := fun b ps q => ⟨#[], by rw [zkp (znb q hn), q]; simp⟩
theorem Un.write (mu : Mut (H x)) (he : e = x ∨ H e = some (.own x)) (k : ∀ b u, b ≠ e -> h.get? b = some u -> h'.get? b = some u) (heo : ∃ u, h'.get? e = some u) : Un fs ex H (upd H x o) h h' := by
 have hx : ∀ b, H b = none -> b ≠ x := fun b n z => by subst z; rw [n] at mu; exact mu
 have hb : ∀ b, H b = none -> b ≠ e := fun b n z => by
  subst z
  rcases he with r | r
  ·exact hx b n r
  ·rw [n] at r; cases r
 have hm : ∀ b u, H b = some u -> ¬ Mut (some u) -> b ≠ x := fun b u q nm z => by subst z; rw [q] at mu; exact nm mu
 refine ⟨fun b u q n _ _ => k b u (hb b n) q, fun b u q n _ _ => ⟨u.slots, k b u (hb b n) q⟩, fun b u q n _ => by rw [zkp (hx b n)]; exact n, fun b u q _ => ?_,
  fun b xs q => by rw [zkp (hm b _ q fun z => z)]; exact q, fun b u xs q => by rw [zkp (hm b _ q fun z => z)]; exact q, fun b ps q => ⟨#[], by rw [zkp (hm b _ q fun z => z), q]; simp⟩⟩
 by_cases hbe : b = e
 ·subst hbe; exact heo
 ·exact ⟨u, k b u hbe q⟩
end
noncomputable def trk (h : Heap) (H : Hp) : List Addr := (List.range h.objs.size).filter fun a => (H a).isSome
noncomputable def hidT (h : Heap) (H : Hp) : Heap := PySem.W.hideAll h (trk h H)
theorem yey (h : Heap) (H : Hp) : (hidT h H).objs.size = h.objs.size := PySem.W.hideAll_size _ _
theorem yjj {h : Heap} {H : Hp} {b : Addr} {o : Obj} (e : h.get? b = some o) (n : H b = none) : (hidT h H).get? b = some o :=
 PySem.W.hideAll_get _ e fun hm => by
  have q : (H b).isSome = true := (zfx.mp hm).2
  rw [n] at q; simp at q
theorem yoj {h : Heap} {H : Hp} {b : Addr} {o : Obj} (e : (hidT h H).get? b = some o) : h.get? b = some o /\ H b = none := by
 have e' : h.get? b = some o := PySem.W.of_hideAll (trk h H) e
 refine ⟨e', ?_⟩
 cases q : H b with
 | none => rfl
 | some x =>
  have hm : b ∈ trk h H := zfx.mpr ⟨zcl.mpr (zam e'), by simp [q]⟩
  have z : (hidT h H).get? b = none := PySem.W.hideAll_none (trk h H) hm
  rw [z] at e; cases e
end L2
namespace L2
open PySem PySem.Spec PyProof.Rows
structure Mod (K : PySem.W.Frag) (mg : Str -> Option Value) (base : Heap) : Prop where
 kin : K.In base
 glob : base.Ns mainGlobals mg
 blt : ∃ mb, base.Ns builtinsNs mb /\ ∀ x : Str, x ≠ "__name__" -> mb x = bootBuiltins x
 nolimit : base.NoLimit
structure Cx where
 prog : Program
 w : World
 K : PySem.W.Frag
 mg : Str -> Option Value
 base : Heap
 A : Around
 N : List Str
 s₀ : Shared
 H₀ : Hp
 env : Env
 outer : List Env
 stack : List Env
 ex : List Addr
 fn : Str -> Bool
 calm : Bool
 pn : List (Addr × Obj)
 xe : Value -> Shared -> Prop
noncomputable def frs (l : List Env) : List Addr := l.filterMap (·.frame)
noncomputable abbrev Cx.fs (X : Cx) : List Addr := frs X.outer
noncomputable def Vis (sc : Scope) (x : Str) : Prop := sc.names.lookup x = some .local ∨ sc.names.lookup x = some .cell ∨ sc.names.lookup x = some .free
noncomputable def Loc (sc : Scope) (x : Str) : Prop := sc.names.lookup x = some .local ∨ sc.names.lookup x = some .cell
noncomputable def Look (env : Env) (h : Heap) (m : Str -> Option Value) (x : Str) (u : Value) : Prop :=
 (env.kindOf x = some .local /\ m x = some u) ∨ ((env.kindOf x = some .cell ∨ env.kindOf x = some .free) /\ ∃ c, env.cells.lookup x = some c /\ h.IsCell c (some u))
structure Cx.Ok (X : Cx) : Prop where
 mod : Mod X.K X.mg X.base
 kind : X.env.scope.kind = .function
 glob : X.env.globals = mainGlobals
 blt : X.env.builtins = builtinsNs
 above : X.s₀.heap.objs.size <= X.env.locals
 inj : ∀ x y c, X.env.cells.lookup x = some c -> X.env.cells.lookup y = some c -> x = y
 has : ∀ x, (X.env.kindOf x = some .cell ∨ X.env.kindOf x = some .free) -> ∃ c, X.env.cells.lookup x = some c
 cab : ∀ x c, X.fn x = true -> X.env.cells.lookup x = some c -> X.s₀.heap.objs.size <= c
 hd : X.calm = true -> X.A.handled = none
 frames : X.A.frames = some X.stack
 stk : X.stack = X.outer ∨ (X.stack = X.env :: X.outer /\ X.env.frame = some X.env.locals)
 exf : ∀ b ∈ X.ex, b ≠ X.env.locals /\ ∀ x c, X.env.cells.lookup x = some c -> c ≠ b
 bs : ∀ b o, X.base.get? b = some o -> X.s₀.heap.get? b = some o /\ X.H₀ b = none
 bsz : X.base.objs.size <= X.s₀.heap.objs.size
 noex : ∀ b o, X.base.get? b = some o -> b ∉ X.ex
 exfs : ∀ b ∈ X.ex, b ∉ X.fs
 funs : X.s₀.heap.FunFrames X.base X.outer
 frf : ∀ b ∈ X.fs, X.H₀ b = none
structure Inv (X : Cx) (pins : List (Addr × Obj)) (σ : List (Option V)) (H : Hp) (s : Shared) : Prop where
 ok : X.Ok
 os : s.os = X.s₀.os
 bare : AllBare s.gens
 base : Un X.fs X.ex X.H₀ H X.s₀.heap s.heap
 loc : ∃ m, s.heap.Ns X.env.locals m /\ ∀ (i : Nat) (x : Str) (v : V), X.N[i]? = some x -> σ[i]? = some (some v) -> Vis X.env.scope x -> ∃ u, RelV v u /\ Look X.env s.heap m x u
 cell : ∀ x c, X.env.cells.lookup x = some c -> ∃ v, s.heap.IsCell c v
 free : H X.env.locals = none
 freeC : ∀ x c, X.env.cells.lookup x = some c -> H c = none
 pin : ∀ p ∈ X.pn ++ pins, s.heap.get? p.1 = some p.2 /\ H p.1 = none /\ p.1 ≠ X.env.locals /\ p.1 ∉ X.fs /\ ∀ v, p.2.data ≠ .cell v
 hok : HOk X.prog X.w H s.heap
 len : σ.length = X.N.length
section
variable {X : Cx} {pins : List (Addr × Obj)} {σ : List (Option V)} {H H' : Hp} {s : Shared} {h' : Heap}
theorem Cx.Ok.nofr (ok : X.Ok) {b : Addr} {o : Obj} (e : X.base.get? b = some o) : b ∉ X.fs := fun hb => by
 have := (ok.funs.mem hb).1
 rw [e] at this; cases this
theorem Inv.bs (I : Inv X pins σ H s) : ∀ b o, X.base.get? b = some o -> s.heap.get? b = some o /\ H b = none := fun b o e =>
 ⟨I.base.keep b o (I.ok.bs b o e).1 (I.ok.bs b o e).2 (I.ok.nofr e) (I.ok.noex b o e), I.base.free b o (I.ok.bs b o e).1 (I.ok.bs b o e).2 (I.ok.noex b o e)⟩
theorem Inv.bk (I : Inv X pins σ H s) : ∀ b o, X.base.get? b = some o -> s.heap.get? b = some o := fun b o e => (I.bs b o e).1
theorem Inv.mod (I : Inv X pins σ H s) : Mod X.K X.mg X.base := I.ok.mod
theorem Inv.kIn (I : Inv X pins σ H s) : X.K.In s.heap := I.ok.mod.kin.keeps I.bk
theorem Inv.fr (I : Inv X pins σ H s) : ∃ m, Fr X.base X.env.locals s.heap m :=
 let ⟨m, hn, _⟩ := I.loc
 ⟨m, hn, I.bk, zcb I.ok.bsz I.ok.above⟩
theorem Inv.lt (I : Inv X pins σ H s) : X.env.locals < s.heap.objs.size := let ⟨_, hn, _⟩ := I.loc; hn.lt
theorem Inv.sz (I : Inv X pins σ H s) : X.s₀.heap.objs.size <= s.heap.objs.size := zcb I.ok.above (zfg I.lt)
theorem Inv.nofs (I : Inv X pins σ H s) {a : Addr} (h : s.heap.objs.size <= a) : a ∉ X.fs := fun hb => by
 refine xaeaa (I.ok.funs.mem hb) fun _ o ho _ => ?_
 exact absurd (zaq (zam ho) (zcb I.sz h)) (Nat.lt_irrefl _)
theorem Inv.cne (I : Inv X pins σ H s) : ∀ x c, X.env.cells.lookup x = some c -> c ≠ X.env.locals := fun x c e z => by
 refine x2_2 (I.cell x c e) fun v o ho hd => ?_
 obtain ⟨m, ⟨o', es, ep, ho', hd', _⟩, _⟩ := I.loc
 rw [z, ho'] at ho; cases ho; rw [hd'] at hd; cases hd
theorem Inv.funs (I : Inv X pins σ H s) : s.heap.FunFrames X.base X.outer := by
 have all : ∀ (l : List Env), (∀ b ∈ frs l, b ∈ X.fs) -> X.s₀.heap.FunFrames X.base l -> s.heap.FunFrames X.base l := by
  intro l
  induction l with
  | nil => intro _ _; trivial
  | cons env r ih =>
   intro hs hl
   obtain ⟨hk, ⟨L, o, hf, hn, ho, hd⟩, hr⟩ := hl
   have hL : L ∈ X.fs := hs L (by unfold frs; rw [zew, hf]; exact zca)
   refine x1_1 (I.base.slot L o ho (I.ok.frf L hL) hL fun z => I.ok.exfs L z hL) fun sl e => ?_
   exact ⟨hk, ⟨L, _, hf, hn, e, hd⟩, ih (fun b hb => hs b (by unfold frs; rw [zew, hf]; exact zbl _ hb)) hr⟩
 exact all X.outer (fun _ hb => hb) I.ok.funs
theorem Inv.stack (I : Inv X pins σ H s) : s.heap.FunFrames X.base X.stack := by
 rcases I.ok.stk with e | ⟨e, hf⟩
 ·rw [e]; exact I.funs
 ·rw [e]
  refine x1_2 (I.loc) fun m hn _ => ?_
  refine .cons (by rw [I.ok.kind]; decide) hf hn ?_ I.funs
  exact Heap.get?_none_of_le (zcb I.ok.bsz I.ok.above)
theorem Inv.stkSub (I : Inv X pins σ H s) : ∀ b ∈ frs X.stack, b ∈ X.env.locals :: X.fs := fun b hb => by
 rcases I.ok.stk with e | ⟨e, hf⟩
 ·rw [e] at hb; exact zbl _ hb
 ·rw [e] at hb
  unfold frs at hb
  rw [zew, hf] at hb
  exact hb
theorem Inv.stkFree (I : Inv X pins σ H s) : ∀ b ∈ frs X.stack, H b = none := fun b hb => by
 rcases zan.mp (I.stkSub b hb) with e | hb
 ·rw [e]; exact I.free
 ·refine xaeaa (I.ok.funs.mem hb) fun _ o ho _ => ?_
  exact I.base.free b o ho (I.ok.frf b hb) fun z => I.ok.exfs b z hb
theorem Inv.step {g' : Array GenState} {t' : Nat} {d' : Drawn} {ch : List Addr} (I : Inv X pins σ H s)
  (hch : ∀ b ∈ ch, (b ∈ X.ex ∨ X.s₀.heap.objs.size <= b) /\ b ≠ X.env.locals /\ (∀ x c, X.env.cells.lookup x = some c -> c ≠ b) /\ ∀ p ∈ X.pn ++ pins, p.1 ≠ b)
  (keep : ∀ b o, b ≠ X.env.locals -> b ∉ X.fs -> b ∉ ch -> s.heap.get? b = some o -> H b = none -> h'.get? b = some o)
  (slot : ∀ b o, b ≠ X.env.locals -> b ∈ X.fs -> b ∉ ch -> s.heap.get? b = some o -> H b = none -> ∃ sl, h'.get? b = some { o with slots := sl }) (free : ∀ b o, b ∉ ch -> s.heap.get? b = some o -> H b = none -> H' b = none)
  (there : ∀ b o, b ∉ ch -> s.heap.get? b = some o -> ∃ o', h'.get? b = some o')
  (tups : ∀ b xs, H b = some (.tup xs) -> H' b = some (.tup xs)) (frzs : ∀ b o u, H b = some (.frz o u) -> H' b = some (.frz o u)) (tbls : ∀ b ps, H b = some (.tbl ps) -> ∃ more, H' b = some (.tbl (ps ++ more)))
  (ns : ∀ m, s.heap.Ns X.env.locals m -> h'.Ns X.env.locals m) (hok : HOk X.prog X.w H' h') (hg : AllBare g') :
  Inv X pins σ H' { s with heap := h', gens := g', drawn := d', toks := t' } := by
 have neL : ∀ b o, X.s₀.heap.get? b = some o -> b ≠ X.env.locals := fun b o e => zbc (zaq (zam e) I.ok.above)
 have neC : ∀ b o, X.s₀.heap.get? b = some o -> b ∉ X.ex -> b ∉ ch := fun b o e hx hb => by
  rcases (hch b hb).1 with z | z
  ·exact hx z
  ·exact absurd (zaq (zam e) z) (Nat.lt_irrefl _)
 have cellK : ∀ x c, X.env.cells.lookup x = some c -> ∀ v, s.heap.IsCell c v -> h'.IsCell c v := fun x c e v hz => x1_2 hz fun o ho hd => by
  have nch : c ∉ ch := fun z => (hch c z).2.2.1 x c e rfl
  by_cases hc : c ∈ X.fs
  ·refine x1_1 (slot c o (I.cne x c e) hc nch ho (I.freeC x c e)) fun sl q => ?_
   exact ⟨_, q, hd⟩
  ·exact ⟨o, keep c o (I.cne x c e) hc nch ho (I.freeC x c e), hd⟩
 refine ⟨I.ok, I.os, hg, ⟨fun b o e n hb hx => ?_, fun b o e n hb hx => ?_, fun b o e n hx => ?_, fun b o e hx => ?_, fun b xs e => tups b xs (I.base.tups b xs e), fun b o xs e => frzs b o xs (I.base.frzs b o xs e), fun b ps e => ?_⟩, ?_, fun x c e => ?_, ?_, fun x c e => ?_, fun p hp => ?_, hok, I.len⟩
 ·exact keep b o (neL b o e) hb (neC b o e hx) (I.base.keep b o e n hb hx) (I.base.free b o e n hx)
 ·refine x1_1 (I.base.slot b o e n hb hx) fun sl e1 => ?_
  refine x1_1 (slot b _ (neL b o e) hb (neC b o e hx) e1 (I.base.free b o e n hx)) fun sl' e2 => ?_
  exact ⟨sl', e2⟩
 ·refine x1_1 (I.base.there b o e hx) fun o' e1 => ?_
  exact free b o' (neC b o e hx) e1 (I.base.free b o e n hx)
 ·refine x1_1 (I.base.there b o e hx) fun o' e1 => ?_
  exact there b o' (neC b o e hx) e1
 ·refine x1_1 (I.base.tbls b ps e) fun m1 e1 => ?_
  refine x1_1 (tbls b _ e1) fun m2 e2 => ?_
  exact ⟨m1 ++ m2, by rw [e2, zjg]⟩
 ·refine x1_2 (I.loc) fun m hn hl => ?_
  refine ⟨m, ns m hn, fun i x v e1 e2 e3 => ?_⟩
  refine x1_2 (hl i x v e1 e2 e3) fun u r l => ?_
  refine ⟨u, r, ?_⟩
  rcases l with l | ⟨k, c, e, z⟩
  ·exact .inl l
  ·exact .inr ⟨k, c, e, cellK x c e _ z⟩
 ·refine x1_1 (I.cell x c e) fun v z => ?_
  exact ⟨v, cellK x c e v z⟩
 ·obtain ⟨m, ⟨o, _, _, ho, _⟩, _⟩ := I.loc
  exact free _ o (fun z => (hch _ z).2.1 rfl) ho I.free
 ·refine x2_2 (I.cell x c e) fun v o ho hd => ?_
  exact free c o (fun z => (hch c z).2.2.1 x c e rfl) ho (I.freeC x c e)
 ·refine x0_5 (I.pin p hp) fun e n ne nf d => ?_
  have nch : p.1 ∉ ch := fun z => (hch p.1 z).2.2.2 p hp rfl
  exact ⟨keep p.1 p.2 ne nf nch e n, free p.1 p.2 nch e n, ne, nf, d⟩
theorem Inv.un {t' : Nat} (I : Inv X pins σ H s) (u : Un X.fs [] H H' s.heap h') (hok : HOk X.prog X.w H' h') : Inv X pins σ H' { s with heap := h', toks := t' } := by
 obtain ⟨m, ⟨o, es, ep, ho, r⟩, _⟩ := id I.loc
 refine x1_1 (u.any ho I.free (by simp)) fun sl hL => ?_
 exact I.step (g' := s.gens) (d' := s.drawn) (ch := []) (fun _ z => nomatch z) (fun b o _ hb _ e n => u.keep b o e n hb (by simp)) (fun b o _ hb _ e n => u.slot b o e n hb (by simp)) (fun b o _ e n => u.free b o e n (by simp)) (fun b o _ e => u.there b o e (by simp)) u.tups u.frzs u.tbls (fun m' hm => by
  refine x3_2 hm fun o' es' ep' ho' r' => ?_; clear hm
  rw [ho] at ho'; cases ho'
  exact ⟨_, es', ep', hL, r'⟩) hok I.bare
theorem Inv.call {g' : Array GenState} {t' : Nat} {d' : Drawn} {ch : List Addr} (I : Inv X pins σ H s) (u : Un (frs X.stack) ch H H' s.heap h') (hok : HOk X.prog X.w H' h') (hg : AllBare g')
  (hch : ∀ b ∈ ch, (b ∈ X.ex ∨ X.s₀.heap.objs.size <= b) /\ b ≠ X.env.locals /\ (∀ x c, X.env.cells.lookup x = some c -> c ≠ b) /\ ∀ p ∈ X.pn ++ pins, p.1 ≠ b) :
  Inv X pins σ H' { s with heap := h', gens := g', drawn := d', toks := t' } := by
 obtain ⟨m, ⟨o, es, ep, ho, r⟩, _⟩ := id I.loc
 refine x1_1 (u.any ho I.free fun z => (hch _ z).2.1 rfl) fun sl hL => ?_
 exact I.step (ch := ch) hch (fun b o hL hb hc e n => u.keep b o e n (fun z => (zan.mp (I.stkSub b z)).elim hL hb) hc) (fun b o _ _ hc e n => u.any e n hc) (fun b o hc e n => u.free b o e n hc) (fun b o hc e => u.there b o e hc) u.tups u.frzs u.tbls (fun m' hm => by
  refine x3_2 hm fun o' es' ep' ho' r' => ?_; clear hm
  rw [ho] at ho'; cases ho'
  exact ⟨_, es', ep', hL, r'⟩) hok hg
theorem Inv.turned {t' : Nat} {it : Addr} (I : Inv X pins σ H s) (k : ∀ b o, b ≠ it -> s.heap.get? b = some o -> h'.get? b = some o) (hn : H it = none) (hL : it ≠ X.env.locals)
  (h1 : it ∈ X.ex ∨ X.s₀.heap.objs.size <= it) (h2 : ∀ x c, X.env.cells.lookup x = some c -> c ≠ it) (h3 : ∀ p ∈ X.pn ++ pins, p.1 ≠ it) : Inv X pins σ H { s with heap := h', toks := t' } := by
 have nit : ∀ b u, H b = some u -> b ≠ it := fun b u e z => by rw [z, hn] at e; cases e
 refine I.step (g' := s.gens) (d' := s.drawn) (ch := [it]) (fun b hb => ?_) (fun b o _ _ hc e _ => k b o (fun z => hc (by simp [z])) e) (fun b o _ _ hc e _ => ⟨o.slots, k b o (fun z => hc (by simp [z])) e⟩) (fun _ _ _ _ n => n)
  (fun b o hc e => ⟨o, k b o (fun z => hc (by simp [z])) e⟩) (fun _ _ e => e) (fun _ _ _ e => e) (fun b ps e => ⟨#[], by rw [e]; simp⟩) (fun m hm => ?_) (fun b u e => ?_) I.bare
 ·have e : b = it := by simpa using hb
  subst e
  exact ⟨h1, hL, h2, h3⟩
 ·refine x3_2 hm fun o es ep ho r => ?_; clear hm
  exact ⟨o, es, ep, k _ o (zda hL) ho, r⟩
 ·refine (I.hok b u e).stay (fun c v hc q => k c v ?_ q) (fun _ q => q) fun _ _ q => q
  rcases hc with z | z
  ·rw [z]; exact nit b u e
  ·exact nit c _ z
theorem Inv.tok (I : Inv X pins σ H s) (t : Nat) : Inv X pins σ H { s with toks := t } := I.un (h' := s.heap) (t' := t) Un.refl I.hok
theorem Inv.kept {t' : Nat} (I : Inv X pins σ H s) (k : ∀ b u, s.heap.get? b = some u -> h'.get? b = some u) : Inv X pins σ H { s with heap := h', toks := t' } := I.un (Un.kept k) (I.hok.kept k)
theorem Inv.laid {a : Addr} {o : HO} {t' : Nat} (I : Inv X pins σ H s) (k : ∀ b u, s.heap.get? b = some u -> h'.get? b = some u) (hp : s.heap.objs.size <= a) (new : ObjOk X.prog X.w (upd H a o) h' a o) :
  Inv X pins σ (upd H a o) { s with heap := h', toks := t' } := I.un (Un.laid k hp (I.hok.fresh hp)) (I.hok.laid k hp new)
theorem Inv.write {x e : Addr} {o : HO} {t' : Nat} (I : Inv X pins σ H s) (mu : Mut (H x)) (he : e = x ∨ H e = some (.own x)) (k : ∀ b u, b ≠ e -> s.heap.get? b = some u -> h'.get? b = some u) (heo : ∃ u, h'.get? e = some u)
  (new : ObjOk X.prog X.w (upd H x o) h' x o) : Inv X pins σ (upd H x o) { s with heap := h', toks := t' } := I.un (Un.write mu he k heo) (I.hok.write mu he k heo new)
theorem Inv.pins_of {pins' : List (Addr × Obj)} (I : Inv X pins σ H s) (h : ∀ p ∈ pins', s.heap.get? p.1 = some p.2 /\ H p.1 = none /\ p.1 ≠ X.env.locals /\ p.1 ∉ X.fs /\ ∀ v, p.2.data ≠ .cell v) : Inv X pins' σ H s :=
 ⟨I.ok, I.os, I.bare, I.base, I.loc, I.cell, I.free, I.freeC, fun p hp => (zcc.mp hp).elim (fun z => I.pin p (zdu _ z)) (h p), I.hok, I.len⟩
theorem zzq {N : List Str} (hN : N.Nodup) {i j : Nat} {x : Str} (a : N[i]? = some x) (b : N[j]? = some x) : i = j := by
 refine x1_1 (zal.mp a) fun h1 e1 => ?_
 refine x1_1 (zal.mp b) fun h2 e2 => ?_
 exact (zft hN).mp (e1.trans e2.symm)
theorem zvv {M : Model} {A : Around} {E : Value -> Shared -> Prop} {i : Nat} {x : Str} {v : V} {u : Value} {Q : Unit -> Shared -> Prop} (I : Inv X pins σ H s) (hN : X.N.Nodup) (hi : X.N[i]? = some x) (hx : Loc X.env.scope x) (r : RelV v u)
  (h : ∀ s', Inv X pins (σ.set i (some v)) H s' -> (∃ a, Heap.SameBut a s.heap s'.heap /\ (a = X.env.locals ∨ X.env.cells.lookup x = some a)) -> Q () s') (hf : X.fn x = true ∨ X.env.scope.names.lookup x = some .local := by first | exact .inl rfl | exact .inr rfl | assumption) : wpAny M A (storeName X.env x u) Q E s := by
 refine x1_2 (id I.loc) fun m hn hl => ?_
 have hcls : (X.env.scope.kind == .class || (X.env.scope.kind == .module && X.env.locals != X.env.globals)) = false := by rw [I.ok.kind]; rfl
 have hiσ : i < σ.length := by rw [I.len]; exact (zal.mp hi).1
 have cne := I.cne
 have tracked : ∀ {a : Addr} {h' : Heap}, (∃ o, s.heap.get? a = some o /\ H a = none) -> Heap.SameBut a s.heap h' -> HOk X.prog X.w H h' := fun {a h'} ha hs b ob e => by
  refine x1_2 ha fun _ _ hfree => ?_; clear ha
  refine (I.hok b ob e).stay (fun c w' hc q => (hs.2 c ?_).trans q) (fun _ q => q) fun _ _ q => q
  rintro rfl
  rcases hc with rfl | hc
  ·rw [hfree] at e; cases e
  ·rw [hfree] at hc; cases hc
 rcases hx with hk | hk
 ·refine wpAny_storeName_local hk hn (fun h' hn' hs => ?_) hcls
  refine x3_2 (id hn) fun oL _ _ hoL _ => ?_
  refine h _ ⟨I.ok, I.os, I.bare, ⟨fun b o e n hb hx => ?_, fun b o e n hb hx => ?_, I.base.free, fun b o e hx => ?_, I.base.tups, I.base.frzs, I.base.tbls⟩, ⟨_, hn', fun j y v' e1 e2 e3 => ?_⟩, fun y c e => ?_, I.free, I.freeC, fun p hp => ?_, tracked ⟨oL, hoL, I.free⟩ hs, by simpa using I.len⟩ ⟨_, hs, .inl rfl⟩
  ·exact (hs.2 b (zbc (zaq (zam e) I.ok.above))).trans (I.base.keep b o e n hb hx)
  ·refine x1_1 (I.base.slot b o e n hb hx) fun sl e1 => ?_
   exact ⟨sl, (hs.2 b (zbc (zaq (zam e) I.ok.above))).trans e1⟩
  ·refine x1_1 (I.base.there b o e hx) fun o' e1 => ?_
   exact ⟨o', (hs.2 b (zbc (zaq (zam e) I.ok.above))).trans e1⟩
  ·by_cases hj : j = i
   ·subst hj
    rw [hi] at e1; cases e1
    rw [zbx hiσ] at e2
    cases e2
    exact ⟨u, r, .inl ⟨hk, by simp⟩⟩
   ·rw [zbm (zda hj)] at e2
    refine x1_2 (hl j y v' e1 e2 e3) fun u' r' q => ?_
    refine ⟨u', r', ?_⟩
    rcases q with ⟨k, e⟩ | ⟨k, c, e, z⟩
    ·refine .inl ⟨k, ?_⟩
     have : y ≠ x := fun e => hj (zzq hN e1 (e ▸ hi))
     simp [this, e]
    ·exact .inr ⟨k, c, e, z.sameBut hs (cne y c e)⟩
  ·refine x1_1 (I.cell y c e) fun w' z => ?_
   exact ⟨w', z.sameBut hs (cne y c e)⟩
  ·refine x0_5 (I.pin p hp) fun e n ne nf d => ?_
   exact ⟨(hs.2 p.1 ne).trans e, n, ne, nf, d⟩
 ·have hfn : X.fn x = true := by
   rcases hf with z | z
   ·exact z
   ·rw [z] at hk; cases hk
  refine x1_1 (I.ok.has x (.inl hk)) fun c hc => ?_
  refine x1_1 (I.cell x c hc) fun w' z => ?_
  refine wpAny_storeName_cell I.ok.kind hk hc z (fun h' hc' hs => ?_)
  refine x1_2 (id z) fun oc hoc hocd => ?_
  refine h { s with heap := h' } ⟨I.ok, I.os, I.bare, ⟨fun b o e n hb hx => ?_, fun b o e n hb hx => ?_, I.base.free, fun b o e hx => ?_, I.base.tups, I.base.frzs, I.base.tbls⟩, ⟨m, hn.sameBut hs (zda (cne x c hc)), fun j y v' e1 e2 e3 => ?_⟩, fun y c' e => ?_, I.free, I.freeC, fun p hp => ?_, tracked ⟨oc, hoc, I.freeC x c hc⟩ hs, by simpa using I.len⟩ ⟨c, hs, .inr hc⟩
  ·exact (hs.2 b (zbc (zaq (zam e) (I.ok.cab x c hfn hc)))).trans (I.base.keep b o e n hb hx)
  ·refine x1_1 (I.base.slot b o e n hb hx) fun sl e1 => ?_
   exact ⟨sl, (hs.2 b (zbc (zaq (zam e) (I.ok.cab x c hfn hc)))).trans e1⟩
  ·refine x1_1 (I.base.there b o e hx) fun o' e1 => ?_
   exact ⟨o', (hs.2 b (zbc (zaq (zam e) (I.ok.cab x c hfn hc)))).trans e1⟩
  ·by_cases hj : j = i
   ·subst hj
    rw [hi] at e1; cases e1
    rw [zbx hiσ] at e2
    cases e2
    exact ⟨u, r, .inr ⟨.inl hk, c, hc, hc'⟩⟩
   ·rw [zbm (zda hj)] at e2
    refine x1_2 (hl j y v' e1 e2 e3) fun u' r' q => ?_
    refine ⟨u', r', ?_⟩
    rcases q with q | ⟨k, c', e, z'⟩
    ·exact .inl q
    ·refine .inr ⟨k, c', e, z'.sameBut hs ?_⟩
     rintro rfl
     exact hj (zzq hN e1 (I.ok.inj _ _ _ e hc ▸ hi))
  ·by_cases hcc : c' = c
   ·subst hcc; exact ⟨_, hc'⟩
   ·refine x1_1 (I.cell y c' e) fun w2 z2 => ?_
    exact ⟨w2, z2.sameBut hs hcc⟩
  ·refine x0_5 (I.pin p hp) fun e n ne nf d => ?_
   refine ⟨(hs.2 p.1 ?_).trans e, n, ne, nf, d⟩
   intro q
   rw [q, hoc] at e
   have q' : oc = p.2 := zbk e
   exact d w' (by rw [<- q']; exact hocd)
theorem zqu {M : Model} {A : Around} {E : Value -> Shared -> Prop} {i : Nat} {x : Str} {v : V} {u : Value} {Q : Unit -> Shared -> Prop} (I : Inv X pins σ H s) (hN : X.N.Nodup) (hi : X.N[i]? = some x) (hx : Loc X.env.scope x) (r : RelV v u)
  (h : ∀ s', Inv X pins (σ.set i (some v)) H s' -> Q () s') (hf : X.fn x = true ∨ X.env.scope.names.lookup x = some .local := by first | exact .inl rfl | exact .inr rfl | assumption) : wpAny M A (storeName X.env x u) Q E s :=
 zvv I hN hi hx r (fun s' I' _ => h s' I') hf
theorem Inv.call' {s' : Shared} {ch : List Addr} (I : Inv X pins σ H s) (ho : s'.os = s.os) (u : Un (frs X.stack) ch H H' s.heap s'.heap) (hok : HOk X.prog X.w H' s'.heap) (hg : AllBare s'.gens)
  (hch : ∀ b ∈ ch, (b ∈ X.ex ∨ X.s₀.heap.objs.size <= b) /\ b ≠ X.env.locals /\ (∀ x c, X.env.cells.lookup x = some c -> c ≠ b) /\ ∀ p ∈ X.pn ++ pins, p.1 ≠ b) : Inv X pins σ H' s' := by
 obtain ⟨h', g', d', t', o'⟩ := s'
 have e : o' = s.os := ho
 subst e
 exact I.call (g' := g') (t' := t') (d' := d') u hok hg hch
end
noncomputable abbrev XK := Value -> Option Addr -> Hp -> Prop
noncomputable abbrev St := List (Option V)
noncomputable abbrev VK := V -> Hp -> Prop
noncomputable abbrev TE := St -> Hp -> VK -> Prop
noncomputable abbrev TT := St -> Hp -> (Bool -> Hp -> Prop) -> Prop
noncomputable abbrev TA := St -> Hp -> (List V -> Hp -> Prop) -> Prop
structure Ends where
 nx : St -> Hp -> Prop
 rt : VK
 bk : St -> Hp -> Prop := fun _ _ => False
 ct : St -> Hp -> Prop := fun _ _ => False
noncomputable abbrev TS := Ends -> St -> Hp -> Prop
noncomputable def EP (X : Cx) (pins : List (Addr × Obj)) (σ : St) (Q : VK) (u : Value) (s' : Shared) : Prop := ∃ v H', Inv X pins σ H' s' /\ RelV v u /\ Q v H'
noncomputable def TP (X : Cx) (pins : List (Addr × Obj)) (σ : St) (Q : Bool -> Hp -> Prop) (b : Bool) (s' : Shared) : Prop := ∃ H', Inv X pins σ H' s' /\ Q b H'
noncomputable def AP (X : Cx) (pins : List (Addr × Obj)) (σ : St) (Q : List V -> Hp -> Prop) (us : List Value) (s' : Shared) : Prop := ∃ vs H', Inv X pins σ H' s' /\ Vals vs us /\ Q vs H'
noncomputable def SP (X : Cx) (pins : List (Addr × Obj)) (D : Ends) (f : Flow) (s' : Shared) : Prop :=
 match f with
 | .next => ∃ σ' H', Inv X pins σ' H' s' /\ D.nx σ' H'
 | .brk => ∃ σ' H', Inv X pins σ' H' s' /\ D.bk σ' H'
 | .cont => ∃ σ' H', Inv X pins σ' H' s' /\ D.ct σ' H'
 | .ret u => ∃ v σ' H', Inv X pins σ' H' s' /\ RelV v u /\ D.rt v H'
noncomputable def PE (X : Cx) (e : Expr) (t : TE) : Prop :=
 ∀ (pins : List (Addr × Obj)) (s : Shared) (σ : St) (H : Hp) (Q : VK), Inv X pins σ H s -> t σ H Q -> wpAny (model X.prog X.w) X.A (eval e X.env) (EP X pins σ Q) X.xe s
noncomputable def PT (X : Cx) (e : Expr) (t : TT) : Prop :=
 ∀ (pins : List (Addr × Obj)) (s : Shared) (σ : St) (H : Hp) (Q : Bool -> Hp -> Prop), Inv X pins σ H s -> t σ H Q -> wpAny (model X.prog X.w) X.A (isTrue e X.env (eval e X.env)) (TP X pins σ Q) X.xe s
noncomputable def PW (X : Cx) (e : Expr) (t : TT) : Prop :=
 ∀ (whole : Sem Value) (pins : List (Addr × Obj)) (s : Shared) (σ : St) (H : Hp) (Q : Bool -> Hp -> Prop), Inv X pins σ H s -> t σ H Q -> wpAny (model X.prog X.w) X.A (isTrue e X.env whole) (TP X pins σ Q) X.xe s
theorem PW.pt {X : Cx} {e : Expr} {t : TT} (h : PW X e t) : PT X e t := h _
noncomputable def PA (X : Cx) (es : List Expr) (t : TA) : Prop :=
 ∀ (pos : Pos) (pins : List (Addr × Obj)) (s : Shared) (σ : St) (H : Hp) (Q : List V -> Hp -> Prop), Inv X pins σ H s -> t σ H Q -> wpAny (model X.prog X.w) X.A (spliced (backTo pos (starEach es X.env))) (AP X pins σ Q) X.xe s
noncomputable def PS (X : Cx) (st : Stmt) (t : TS) : Prop :=
 ∀ (pins : List (Addr × Obj)) (s : Shared) (σ : St) (H : Hp) (D : Ends), Inv X pins σ H s -> t D σ H -> wpAny (model X.prog X.w) X.A (exec st X.env) (SP X pins D) X.xe s
noncomputable def PSs (X : Cx) (st : List Stmt) (t : TS) : Prop :=
 ∀ (pins : List (Addr × Obj)) (s : Shared) (σ : St) (H : Hp) (D : Ends), Inv X pins σ H s -> t D σ H -> wpAny (model X.prog X.w) X.A (execs st X.env) (SP X pins D) X.xe s
theorem thn {α : Type} {t : Sem α} {Q Q' : α -> Shared -> Prop} {M : Model} {A : Around} {E : Value -> Shared -> Prop} {s : Shared} (h : wpAny M A t Q E s) (hQ : ∀ a s, Q a s -> Q' a s) : wpAny M A t Q' E s := zfd h hQ fun _ _ x => x
end L2
namespace L2
open PySem PySem.Spec PyProof.Rows
section
variable {X : Cx}
noncomputable def tVar (i : Nat) : TE := fun σ H Q => ∃ v, σ[i]? = some (some v) /\ Q v H
noncomputable def tC (v : V) : TE := fun _ H Q => Q v H
theorem zpz {i : Nat} {x : Str} {pos : Pos} (hN : X.N[i]? = some x) (hv : Vis X.env.scope x) (hd : (x == ("__debug__" : Str)) = false := by decide) (hcd : (x == ("__classdict__" : Str)) = false := by decide) : PE X (.Name x pos) (tVar i) := by
 intro pins s σ H Q I h
 refine x1_2 h fun v e h => ?_
 refine x1_2 (I.loc) fun m hn hl => ?_
 refine x1_2 (hl i x v hN e hv) fun u r l => ?_
 have fin : EP X pins σ Q u s := ⟨v, H, I, r, h⟩
 rcases l with ⟨hk, hm⟩ | ⟨hk, c, hc, hcell⟩
 ·exact wpAny_Name (wpAny_loadName_local I.ok.kind hk hn hm fin) hd
 ·rcases hk with hk | hk
  ·exact wpAny_Name (wpAny_loadName_cell I.ok.kind hk hc hcell fin) hd
  ·exact wpAny_Name (wpAny_loadName_free I.ok.kind hk hc hcell fin hcd) hd
theorem pe_int {i j pos} : PE X (.Constant (.int i) j pos) (tC (.int i)) := fun _ _ _ H _ I h => wpAny_Constant_int ⟨.int i, H, I.tok _, ⟨_, rfl⟩, h⟩
theorem pe_bl {b j pos} : PE X (.Constant (.bool b) j pos) (tC (.bl b)) := fun _ _ _ H _ I h => Constant_bool ⟨.bl b, H, I, rfl, h⟩
theorem pe_non {j pos} : PE X (.Constant .none j pos) (tC .non) := fun _ _ _ H _ I h => Constant_none ⟨.non, H, I, rfl, h⟩
noncomputable def Gl (X : Cx) (x : Str) : Prop := X.env.kindOf x = some .globalImplicit
theorem yov {E : Value -> Shared -> Prop} {pins : List (Addr × Obj)} {s : Shared} {σ : St} {H : Hp} {x : Str} {u : Value} {pos : Pos} {Q : Value -> Shared -> Prop} (I : Inv X pins σ H s) (hg : Gl X x) (hm : X.mg x = some u) (h : Q u s)
  (hd : (x == ("__debug__" : Str)) = false := by decide) : wpAny (model X.prog X.w) X.A (eval (.Name x pos) X.env) Q E s :=
 zhn I.ok.kind hg (Calls.loadGlobal_global (by rw [I.ok.glob]; exact I.mod.glob.keeps I.bk) hm h) hd
theorem zoz {E : Value -> Shared -> Prop} {pins : List (Addr × Obj)} {s : Shared} {σ : St} {H : Hp} {x : Str} {u : Value} {pos : Pos} {Q : Value -> Shared -> Prop} (I : Inv X pins σ H s) (hg : Gl X x) (hm : X.mg x = none) (hv : bootBuiltins x = some u) (h : Q u s)
  (hn : x ≠ "__name__" := by decide) (hd : (x == ("__debug__" : Str)) = false := by decide) : wpAny (model X.prog X.w) X.A (eval (.Name x pos) X.env) Q E s := by
 refine x1_2 (I.mod.blt) fun mb h1 h2 => ?_
 exact zhn I.ok.kind hg (Calls.loadGlobal_builtin (by rw [I.ok.glob]; exact I.mod.glob.keeps I.bk) hm (by rw [I.ok.blt]; exact h1.keeps I.bk) ((h2 x hn).trans hv) h) hd
theorem yny {x : Str} {v : V} {u : Value} {pos : Pos} (hg : Gl X x) (hm : X.mg x = none) (hv : bootBuiltins x = some u) (r : RelV v u) (hn : x ≠ "__name__" := by decide) (hd : (x == ("__debug__" : Str)) = false := by decide) : PE X (.Name x pos) (tC v) :=
 fun _ _ _ H _ I h => zoz I hg hm hv ⟨v, H, I, r, h⟩ hn hd
variable {a b : Expr} {ta tb : TE} {pos : Pos}
noncomputable def tB (t : TE) : TT := fun σ H Q => t σ H fun x H1 => ∃ c, x = .bl c /\ Q c H1
theorem pt_val {e : Expr} {t : TE} (h : PE X e t) (he : ∀ whole, isTrue e X.env whole = (do let v <- whole; standAt e.pos; holding [v] (truthy v)) := by intro _; rfl) : PT X e (tB t) := by
 intro pins s σ H Q I hw
 refine isTrue_plain (thn (h pins s σ H _ I hw) fun v s1 hz => x2_3 hz fun x H1 I1 r1 q1 => ?_) (he _)
 refine x1_2 q1 fun d qz1 q => ?_; clear q1; subst qz1
 cases r1
 exact zes ⟨H1, I1, q⟩
variable {tA tB' : TT} {rest : List Expr}
noncomputable def tAnd (t u : TT) : TT := fun σ H Q => t σ H fun c H1 => if c = true then u σ H1 Q else Q false H1
noncomputable def tOr (t u : TT) : TT := fun σ H Q => t σ H fun c H1 => if c = true then Q true H1 else u σ H1 Q
noncomputable def tNot (t : TT) : TT := fun σ H Q => t σ H fun c H1 => Q (!c) H1
theorem ynp (ha : PT X a tA) : PW X (.BoolOp .And [a] pos) tA := by
 intro wh pins s σ H Q I h
 refine isTrue_and (thn (ha pins s σ H Q I h) fun c s1 e => ?_)
 cases c with
 | true => exact isTrue_and_nil e
 | false => exact e
theorem pw_or1 (ha : PT X a tA) : PW X (.BoolOp .Or [a] pos) tA := by
 intro wh pins s σ H Q I h
 refine isTrue_or (thn (ha pins s σ H Q I h) fun c s1 e => ?_)
 cases c with
 | false => exact isTrue_or_nil e
 | true => exact e
theorem ylf (ha : PT X a tA) (hb : PW X (.BoolOp .And (b :: rest) pos) tB') : PW X (.BoolOp .And (a :: b :: rest) pos) (tAnd tA tB') := by
 intro wh pins s σ H Q I h
 refine isTrue_and (thn (ha pins s σ H _ I h) fun c s1 hz => x1_2 hz fun H1 I1 q1 => ?_)
 cases c with
 | true => exact hb wh pins s1 σ H1 Q I1 q1
 | false => exact ⟨H1, I1, q1⟩
theorem pw_or (ha : PT X a tA) (hb : PW X (.BoolOp .Or (b :: rest) pos) tB') : PW X (.BoolOp .Or (a :: b :: rest) pos) (tOr tA tB') := by
 intro wh pins s σ H Q I h
 refine isTrue_or (thn (ha pins s σ H _ I h) fun c s1 hz => x1_2 hz fun H1 I1 q1 => ?_)
 cases c with
 | true => exact ⟨H1, I1, q1⟩
 | false => exact hb wh pins s1 σ H1 Q I1 q1
theorem pt_not (ha : PT X a tA) : PT X (.UnaryOp .Not a pos) (tNot tA) := by
 intro pins s σ H Q I h
 exact isTrue_not (ha pins s σ H (fun c H1 => Q (!c) H1) I h)
noncomputable def tAndV (ta tb : TE) : TE := fun σ H Q => ta σ H fun x H1 => ∃ c, x = .bl c /\ if c = true then tb σ H1 Q else Q (.bl false) H1
noncomputable def tOrV (ta tb : TE) : TE := fun σ H Q => ta σ H fun x H1 => ∃ c, x = .bl c /\ if c = true then Q (.bl true) H1 else tb σ H1 Q
noncomputable def tNotV (ta : TE) : TE := fun σ H Q => ta σ H fun x H1 => ∃ c, x = .bl c /\ Q (.bl (!c)) H1
theorem pe_one {op} {t : TE} (h : PE X a t) : PE X (.BoolOp op [a] pos) t := fun pins s σ H Q I hw => BoolOp_one (h pins s σ H Q I hw)
theorem ylk (ha : PE X a ta) (hb : PE X (.BoolOp .And (b :: rest) pos) tb) : PE X (.BoolOp .And (a :: b :: rest) pos) (tAndV ta tb) := by
 intro pins s σ H Q I h
 refine BoolOp_and (thn (ha pins s σ H _ I h) fun v s1 ⟨x, H1, I1, r1, q1⟩ => ?_)
 obtain ⟨c, rfl, q1⟩ := q1
 cases r1
 refine zes ?_
 cases c with
 | true => exact hb pins s1 σ H1 Q I1 q1
 | false => exact ⟨.bl false, H1, I1, rfl, q1⟩
theorem pe_or (ha : PE X a ta) (hb : PE X (.BoolOp .Or (b :: rest) pos) tb) : PE X (.BoolOp .Or (a :: b :: rest) pos) (tOrV ta tb) := by
 intro pins s σ H Q I h
 refine BoolOp_or (thn (ha pins s σ H _ I h) fun v s1 ⟨x, H1, I1, r1, q1⟩ => ?_)
 obtain ⟨c, rfl, q1⟩ := q1
 cases r1
 refine zes ?_
 cases c with
 | false => exact hb pins s1 σ H1 Q I1 q1
 | true => exact ⟨.bl true, H1, I1, rfl, q1⟩
theorem pe_not (ha : PE X a ta) : PE X (.UnaryOp .Not a pos) (tNotV ta) := by
 intro pins s σ H Q I h
 refine UnaryOp_ (thn (ha pins s σ H _ I h) fun v s1 ⟨x, H1, I1, r1, q1⟩ => ?_)
 obtain ⟨c, rfl, q1⟩ := q1
 cases r1
 exact not_of (zes ⟨.bl (!c), H1, I1, rfl, q1⟩)
end
end L2
namespace L2
open PySem PySem.Spec PyProof.Rows
noncomputable def SqL (K : PySem.W.Frag) (H : Hp) (a : Addr) (xs : List V) : Prop :=
 Rd H a (.lst xs) ∨
  ∃ (o : Obj) (its : Array Value) (n : Nat), K.lookup a = some o /\ o.cls = .type "list" /\ o.dict = none /\ o.data = .seq its n /\ its.size <= sizeLine /\ Vals xs its.toList
noncomputable def SqT (K : PySem.W.Frag) (H : Hp) (a : Addr) (xs : List V) : Prop :=
 Rd H a (.tup xs) ∨
  ∃ (o : Obj) (its : Array Value) (n : Nat), K.lookup a = some o /\ o.cls = .type "tuple" /\ o.data = .seq its n /\ its.size <= sizeLine /\ Vals xs its.toList
noncomputable def absV : Value -> Option V
 | .none => some .non
 | .bool b => some (.bl b)
 | .int i _ => some (.int i)
 | .str x _ => some (.str x)
 | .bytes b _ => some (.byt b)
 | .float b _ => some (.flt b)
 | .ref a => some (.ref a)
 | .type n => some (.ty n)
 | _ => none
theorem RelV.abs {x : V} {u : Value} (r : RelV x u) : absV u = some x := by
 cases x with
 | non => cases r; rfl
 | bl _ => cases r; rfl
 | int _ => refine x1_1 r fun t qz1 => ?_; clear r; subst qz1; rfl
 | str _ => refine x1_1 r fun t qz1 => ?_; clear r; subst qz1; rfl
 | byt _ => refine x1_1 r fun t qz1 => ?_; clear r; subst qz1; rfl
 | flt _ => refine x1_1 r fun t qz1 => ?_; clear r; subst qz1; rfl
 | ref _ => cases r; rfl
 | ty _ => cases r; rfl
theorem RelV.inj {x y : V} {u : Value} (r : RelV x u) (q : RelV y u) : x = y := zbk (r.abs.symm.trans q.abs)
theorem Vals.inj {xs ys : List V} {us : List Value} (h : Vals xs us) : Vals ys us -> xs = ys := by
 induction h generalizing ys with
 | nil => intro h; cases h; rfl
 | cons r _ ih =>
  intro h
  cases h with
  | cons r' t' => rw [r.inj r', ih t']
section
variable {X : Cx} {pins : List (Addr × Obj)} {σ : St} {H : Hp} {s : Shared} {a : Addr} {xs ys : List V}
theorem SqL.of {K : PySem.W.Frag} (h : H a = some (.lst xs)) : SqL K H a xs := .inl (.inl h)
theorem SqT.of {K : PySem.W.Frag} (h : H a = some (.tup xs)) : SqT K H a xs := .inl (.inl h)
theorem Inv.list (I : Inv X pins σ H s) (h : SqL X.K H a xs) : ∃ its : List Value, Vals xs its /\ PlainL s.heap a its.toArray /\ xs.length <= sizeLine := by
 rcases h with h | ⟨o, its, n, hk, hc, hd, hs, hz, r⟩
 ·refine xaeeaa (h.ok I.hok) fun z its n r e => ?_
  exact ⟨its, r, ⟨_, n, e, rfl, rfl, rfl⟩, z⟩
 ·refine ⟨its.toList, r, ⟨o, n, I.kIn a o hk, hc, hd, by simpa using hs⟩, ?_⟩
  have e := r.length
  simp only [zbb] at e
  omega
theorem Inv.tuple (I : Inv X pins σ H s) (h : SqT X.K H a xs) : ∃ its : List Value, Vals xs its /\ IsTup s.heap a its.toArray /\ xs.length <= sizeLine := by
 rcases h with h | ⟨o, its, n, hk, hc, hs, hz, r⟩
 ·refine xaeaa (h.ok I.hok) fun z its r p => ?_
  exact ⟨its, r, p, z⟩
 ·refine ⟨its.toList, r, ⟨o, I.kIn a o hk, hc, n, by simpa using hs⟩, ?_⟩
  have e := r.length
  simp only [zbb] at e
  omega
theorem Inv.list_inj (I : Inv X pins σ H s) (h : SqL X.K H a xs) (h' : SqL X.K H a ys) : xs = ys := by
 obtain ⟨its, r, ⟨o, n, e, _, _, d⟩, _⟩ := I.list h
 obtain ⟨its', r', ⟨o', n', e', _, _, d'⟩, _⟩ := I.list h'
 rw [e] at e'; cases e'
 rw [d] at d'
 injection d' with d1 _
 have : its = its' := by simpa using congrArg Array.toList d1
 subst this
 exact r.inj r'
theorem Inv.tuple_inj (I : Inv X pins σ H s) (h : SqT X.K H a xs) (h' : SqT X.K H a ys) : xs = ys := by
 obtain ⟨its, r, ⟨o, e, _, n, d⟩, _⟩ := I.tuple h
 obtain ⟨its', r', ⟨o', e', _, n', d'⟩, _⟩ := I.tuple h'
 rw [e] at e'; cases e'
 rw [d] at d'
 injection d' with d1 _
 have : its = its' := by simpa using congrArg Array.toList d1
 subst this
 exact r.inj r'
end
noncomputable abbrev Cx.wish (X : Cx) (E : Value -> Shared -> Prop) : Cx := { X with xe := E }
noncomputable abbrev Cx.nox (X : Cx) : Cx := X.wish fun _ _ => False
theorem Cx.Ok.wish {X : Cx} (ok : X.Ok) (E : Value -> Shared -> Prop) : (X.wish E).Ok :=
 ⟨ok.mod, ok.kind, ok.glob, ok.blt, ok.above, ok.inj, ok.has, ok.cab, ok.hd, ok.frames, ok.stk, ok.exf, ok.bs, ok.bsz, ok.noex, ok.exfs, ok.funs, ok.frf⟩
theorem Cx.Ok.unwish {X : Cx} {E : Value -> Shared -> Prop} (ok : (X.wish E).Ok) : X.Ok :=
 ⟨ok.mod, ok.kind, ok.glob, ok.blt, ok.above, ok.inj, ok.has, ok.cab, ok.hd, ok.frames, ok.stk, ok.exf, ok.bs, ok.bsz, ok.noex, ok.exfs, ok.funs, ok.frf⟩
section
variable {X : Cx} {pins : List (Addr × Obj)} {σ : St} {H : Hp} {s : Shared} {E : Value -> Shared -> Prop}
theorem Inv.wish (I : Inv X pins σ H s) (E : Value -> Shared -> Prop) : Inv (X.wish E) pins σ H s := ⟨I.ok.wish E, I.os, I.bare, I.base, I.loc, I.cell, I.free, I.freeC, I.pin, I.hok, I.len⟩
theorem Inv.unwish (I : Inv (X.wish E) pins σ H s) : Inv X pins σ H s := ⟨I.ok.unwish, I.os, I.bare, I.base, I.loc, I.cell, I.free, I.freeC, I.pin, I.hok, I.len⟩
theorem SP.unwish {D : Ends} {f : Flow} {s' : Shared} (h : SP (X.wish E) pins D f s') : SP X pins D f s' := by
 cases f with
 | next => refine x2_2 h fun σ' H' I q => ?_; clear h; exact ⟨σ', H', I.unwish, q⟩
 | brk => refine x2_2 h fun σ' H' I q => ?_; clear h; exact ⟨σ', H', I.unwish, q⟩
 | cont => refine x2_2 h fun σ' H' I q => ?_; clear h; exact ⟨σ', H', I.unwish, q⟩
 | ret u => refine x3_3 h fun v σ' H' I r q => ?_; clear h; exact ⟨v, σ', H', I.unwish, r, q⟩
theorem PSs.nox {st : List Stmt} {t : TS} (h : PSs X.nox st t) : PSs X st t := fun pins s σ H D I hw =>
 zfd (h pins s σ H D (I.wish _) hw) (fun _ _ q => q.unwish) fun _ _ z => False.elim z
end
section
variable {X : Cx} {st : Stmt} {rest : List Stmt} {t u : TS} {e : Expr} {te : TE} {pos : Pos}
noncomputable def tNext : TS := fun D σ H => D.nx σ H
noncomputable def tSeq (t u : TS) : TS := fun D σ H => t { D with nx := u D } σ H
theorem ynt : PSs X [] tNext := fun _ _ σ H _ I h => zik ⟨σ, H, I, h⟩
theorem zzg (h1 : PS X st t) (h2 : PSs X rest u) : PSs X (st :: rest) (tSeq t u) := by
 intro pins s σ H D I h
 refine wpAny_execs_cons (thn (h1 pins s σ H { D with nx := u D } I h) fun f s1 q => ?_)
 cases f with
 | next =>
  refine x2_2 q fun σ' H' I' q => ?_
  exact h2 pins s1 σ' H' D I' q
 | ret v => exact q
 | brk => exact q
 | cont => exact q
theorem Inv.quiet {pins : List (Addr × Obj)} {σ : St} {H : Hp} {s : Shared} (I : Inv X pins σ H s) : interactive X.env = false := by simp [interactive, I.ok.kind]
noncomputable def tDrop (te : TE) : TS := fun D σ H => te σ H fun _ H1 => D.nx σ H1
theorem zxz (he : PE X e te) (hs : swapsWith e none pos.line X.env = pure false := by rfl) : PS X (.Expr e pos) (tDrop te) := by
 intro pins s σ H D I h
 exact wpAny_Expr_any (thn (he pins s σ H _ I h) fun v s1 hz => x2_3 hz fun x H1 I1 r1 q1 => ⟨σ, H1, I1, q1⟩) I.quiet hs
noncomputable def tRet (te : TE) : TS := fun D σ H => te σ H D.rt
theorem ylg (he : PE X e te) : PS X (.Return (some e) pos) (tRet te) := by
 intro pins s σ H D I h
 exact wpAny_Return_some (thn (he pins s σ H _ I h) fun v s1 hz => x2_3 hz fun x H1 I1 r1 q1 => ⟨x, σ, H1, I1, r1, q1⟩)
noncomputable def tIfS (c : TT) (t u : TS) : TS := fun D σ H => c σ H fun b H1 => if b = true then t D σ H1 else u D σ H1
theorem ps_if {c : Expr} {a b : List Stmt} {tc : TT} (hc : PT X c tc) (ha : PSs X a t) (hb : PSs X b u) : PS X (.If c a b pos) (tIfS tc t u) := by
 intro pins s σ H D I h
 refine wpAny_If (thn (hc pins s σ H _ I h) fun d s1 hz => x1_2 hz fun H1 I1 q1 => ?_)
 cases d with
 | true => exact ha pins s1 σ H1 D I1 q1
 | false => exact hb pins s1 σ H1 D I1 q1
noncomputable def tNever : TS := fun _ _ _ => False
theorem zrx {sts : List Stmt} : PSs X sts tNever := fun _ _ _ _ _ _ h => h.elim
end
noncomputable abbrev TG := V -> St -> Hp -> (St -> Hp -> Prop) -> Prop
noncomputable abbrev TGs := List V -> St -> Hp -> (St -> Hp -> Prop) -> Prop
noncomputable def PG (X : Cx) (target : Expr) (t : TG) : Prop :=
 ∀ (pins : List (Addr × Obj)) (s : Shared) (σ : St) (H : Hp) (v : V) (u : Value) (Q : St -> Hp -> Prop), Inv X pins σ H s -> RelV v u -> t v σ H Q ->
  wpAny (model X.prog X.w) X.A (assign target X.env u) (fun _ s' => ∃ σ' H', Inv X pins σ' H' s' /\ Q σ' H') X.xe s
noncomputable def PGs (X : Cx) (ts : List Expr) (t : TGs) : Prop :=
 ∀ (pins : List (Addr × Obj)) (s : Shared) (σ : St) (H : Hp) (vs : List V) (us : List Value) (Q : St -> Hp -> Prop), Inv X pins σ H s -> Vals vs us -> t vs σ H Q ->
  wpAny (model X.prog X.w) X.A (assignInOrder ((assignEach ts X.env).map (·.2)) us) (fun _ s' => ∃ σ' H', Inv X pins σ' H' s' /\ Q σ' H') X.xe s
noncomputable abbrev TSet := V -> V -> V -> Hp -> (Hp -> Prop) -> Prop
noncomputable def PSet (X : Cx) (t : TSet) : Prop :=
 ∀ (pins : List (Addr × Obj)) (s : Shared) (σ : St) (H : Hp) (o i v : V) (ov iv u : Value) (Q : Hp -> Prop), Inv X pins σ H s -> RelV o ov -> RelV i iv -> RelV v u -> t o i v H Q ->
  wpAny (model X.prog X.w) X.A (setItem ov iv u) (fun _ s' => ∃ H', Inv X pins σ H' s' /\ Q H') X.xe s
section
variable {X : Cx} {pos : Pos}
noncomputable def gName (i : Nat) : TG := fun v σ H Q => Q (σ.set i (some v)) H
theorem ydx {i : Nat} {x : Str} (hN : X.N.Nodup) (hi : X.N[i]? = some x) (hx : Loc X.env.scope x) (hf : X.fn x = true ∨ X.env.scope.names.lookup x = some .local := by first | exact .inl rfl | exact .inr rfl | assumption) : PG X (.Name x pos) (gName i) := by
 intro pins s σ H v u Q I r h
 exact wpAny_assign_Name (zqu I hN hi hx r (fun s' I' => ⟨_, H, I', h⟩) hf)
noncomputable def gNil : TGs := fun vs σ H Q => vs = [] /\ Q σ H
noncomputable def gCons (t : TG) (u : TGs) : TGs := fun vs σ H Q => ∃ v r, vs = v :: r /\ t v σ H fun σ' H' => u r σ' H' Q
theorem ydw : PGs X [] gNil := by
 intro pins s σ H vs us Q I r h
 obtain ⟨e, h⟩ := h
 subst e
 cases r
 exact assignInOrder_nil ⟨σ, H, I, h⟩
theorem zzk {e : Expr} {es : List Expr} {t : TG} {u : TGs} (h1 : PG X e t) (h2 : PGs X es u)
  (hs : (assignEach (e :: es) X.env).map (·.2) = assign e X.env :: (assignEach es X.env).map (·.2) := by rfl) : PGs X (e :: es) (gCons t u) := by
 intro pins s σ H vs us Q I r h
 obtain ⟨v, vr, e1, h⟩ := h
 subst e1
 cases r with
 | cons r rr =>
  rw [hs]
  refine zhh (thn (h1 pins s σ H _ _ _ I r h) fun _ s1 ⟨σ1, H1, I1, q1⟩ => ?_)
  exact h2 pins s1 σ1 H1 _ _ Q I1 rr q1
noncomputable def gTup (K : PySem.W.Frag) (n : Nat) (t : TGs) : TG := fun v σ H Q => ∃ a xs, v = .ref a /\ SqT K H a xs /\ xs.length = n /\ t xs σ H Q
theorem yli {es : List Expr} {k : Nat} {t : TGs} {n : Nat} (hc : X.calm = true) (h : PGs X es t)
  (hn : (assignEach es X.env).length = n := by rfl) (hst : (assignEach es X.env).findIdx? (·.1) = none := by rfl) : PG X (.Tuple es k pos) (gTup X.K n t) := by
 intro pins s σ H v u Q I r hw
 obtain ⟨a, xs, e1, hq, hl, hw⟩ := hw
 subst e1
 cases r
 obtain ⟨its, rv, ht, hz⟩ := I.tuple hq
 refine assign_Tuple_tuple (I.ok.hd hc) ht (by simp [hn, <- hl, rv.length]) hst fun h' hx => ?_
 have I1 : Inv X pins σ H { s with heap := h' } := I.kept (t' := s.toks) fun b o e => hx b o (zbc (zam e)) e
 exact h pins _ σ H xs _ Q I1 (by simpa using rv) hw
noncomputable def gSub (to ti : TE) (t : TSet) : TG := fun v σ H Q => to σ H fun o H1 => ti σ H1 fun i H2 => t o i v H2 fun H3 => Q σ H3
theorem pg_sub {o i : Expr} {to ti : TE} {t : TSet} (ho : PE X o to) (hi : PE X i ti) (hs : PSet X t)
  (ha : ∀ v, assign (.Subscript o i pos) X.env v = (do
   let ov <- holding [v] (eval o X.env)
   let iv <- holding [v, ov] (eval i X.env)
   standAt pos
   holding [v, ov, iv] (setItem ov iv v)
   release [v, ov, iv] []) := by intro _; rfl) : PG X (.Subscript o i pos) (gSub to ti t) := by
 intro pins s σ H v u Q I r h
 rw [ha]
 refine zac (zby (thn (ho pins s σ H _ I h) fun ov s1 hz => x2_3 hz fun x H1 I1 r1 q1 => ?_))
 refine zac (zby (thn (hi pins s1 σ H1 _ I1 q1) fun iv s2 hz => x2_3 hz fun y H2 I2 r2 q2 => ?_))
 refine zac (zga (zac (zby (thn (hs pins s2 σ H2 x y v ov iv u _ I2 r1 r2 r q2) fun _ s3 hz => x1_2 hz fun H3 I3 q3 => ?_))))
 exact wpAny_release ⟨σ, H3, I3, q3⟩
noncomputable def tAsg (te : TE) (g : TG) : TS := fun D σ H => te σ H fun x H1 => g x σ H1 D.nx
theorem ylh {tg e : Expr} {te : TE} {g : TG} (he : PE X e te) (hg : PG X tg g) (hs : swapsWithSole [tg] e pos.line X.env = pure false := by rfl) (hw : swappedStores [tg] e X.env = pure none := by rfl)
  (h1 : (assignEach [tg] X.env).map (·.2) = [assign tg X.env] := by rfl) : PS X (.Assign [tg] e pos) (tAsg te g) := by
 intro pins s σ H D I h
 refine wpAny_Assign_stores (thn (he pins s σ H _ I h) fun v s1 hz => x2_3 hz fun x H1 I1 r1 q1 => ?_) hs hw
 rw [h1]
 exact thn (hg pins s1 σ H1 x v _ I1 r1 q1) fun _ s2 q => q
theorem ps_set {i : Nat} {x : Str} {e : Expr} {te : TE} {pos' : Pos} (hN : X.N.Nodup) (hi : X.N[i]? = some x) (hx : Loc X.env.scope x) (he : PE X e te) (hs : swapsWith e (some (.Name x pos')) pos.line X.env = pure false := by rfl) (hf : X.fn x = true ∨ X.env.scope.names.lookup x = some .local := by first | exact .inl rfl | exact .inr rfl | assumption) :
  PS X (.Assign [.Name x pos'] e pos) (tAsg te (gName i)) := by
 intro pins s σ H D I h
 refine wpAny_Assign_Name (thn (he pins s σ H _ I h) fun v s1 hz => x2_3 hz fun y H1 I1 r1 q1 => ?_) hs
 exact zqu I1 hN hi hx r1 (fun s2 I2 => ⟨_, H1, I2, q1⟩) hf
noncomputable def tPar (i j : Nat) (ta : TA) : TS := fun D σ H => ta σ H fun vs H1 => ∃ v w, vs = [v, w] /\ D.nx ((σ.set i (some v)).set j (some w)) H1
theorem ps_par {i j : Nat} {x y : Str} {a b : Expr} {ta : TA} {px py pt : Pos} {kt k2 pt2} (hc : X.calm = true) (hN : X.N.Nodup) (hi : X.N[i]? = some x) (hj : X.N[j]? = some y) (hij : i ≠ j)
  (hx : X.env.scope.names.lookup x = some .local) (hy : X.env.scope.names.lookup y = some .local) (ha : PA X [a, b] ta)
  (hw : swappedStores [.Tuple [.Name x px, .Name y py] kt pt] (.Tuple [a, b] k2 pt2) X.env = pure (some [x, y]))
  (hs : swapsWithSole [.Tuple [.Name x px, .Name y py] kt pt] (.Tuple [a, b] k2 pt2) pos.line X.env = pure false := by rfl) :
  PS X (.Assign [.Tuple [.Name x px, .Name y py] kt pt] (.Tuple [a, b] k2 pt2) pos) (tPar i j ta) := by
 intro pins s σ H D I h
 rw [exec_Assign_arm]
 refine zac (zga ?_)
 rw [hs]
 refine zac (zag ?_)
 rw [if_neg (by decide)]
 refine zac (Tuple_ (thn (ha _ pins s σ H _ I h) fun us s1 ⟨vs, H1, I1, r1, q1⟩ => ?_))
 obtain ⟨v, w, e1, q1⟩ := q1
 subst e1
 obtain ⟨u1, u2, rfl, rv, rw'⟩ : ∃ u1 u2, us = [u1, u2] /\ RelV v u1 /\ RelV w u2 := by
  cases r1 with
  | cons p q =>
   cases q with
   | cons p' q' =>
    cases q'
    exact ⟨_, _, rfl, p, p'⟩
 refine zdz ?_ (by show 2 <= sizeLine; decide)
 have I2 : Inv X pins σ H1 { s1 with heap := s1.heap.push { cls := .type "tuple", data := .seq [u1, u2].toArray } } := I1.kept (t' := s1.toks) fun b o e => zaf _ e
 rw [hw]
 refine zac (zag ?_)
 show wpAny (model X.prog X.w) X.A (do rule "assign.swapped-stores"; let items <- unpackItems (.ref s1.heap.objs.size) 2 none; assignInOrder [fun v => bindName X.env y v, fun v => bindName X.env x v] items.reverse; pure Flow.next) _ _ _
 refine zac (wpAny_rule (zac (unpackItems_tuple (items := #[u1, u2]) (I.ok.hd hc) (IsTup.new s1.heap _) fun h' hx' => ?_)))
 have I3 := I2.kept (h' := h') (t' := s1.toks) fun b o e => hx' b o (zbc (zam e)) e
 show wpAny _ _ (assignInOrder [fun v => bindName X.env y v, fun v => bindName X.env x v] [u2, u1] >>= fun _ => pure Flow.next) _ _ _
 refine zac (zhh (wpAny_bindName (zqu I3 hN hj (.inl hy) rw' (fun s2 I4 => ?_) (.inr hy))))
 refine zhh (wpAny_bindName (zqu I4 hN hi (.inl hx) rv (fun s3 I5 => assignInOrder_nil (zag ?_)) (.inr hx)))
 rw [List.set_comm _ _ (zda hij)] at I5
 exact ⟨_, H1, I5, q1⟩
end
section
variable {X : Cx} {pos : Pos}
noncomputable def tWhile (c : TT) (tb : TS) : TS := fun D σ H => ∃ W : Nat -> St -> Hp -> Prop, (∃ m, W m σ H) /\ ∀ m σ H, W m σ H ->
 c σ H fun b H1 => if b = true then ∃ N : St -> Hp -> Prop, (∀ σ' H', N σ' H' -> ∃ m', m' < m /\ W m' σ' H') /\ tb { D with nx := N, ct := N, bk := D.nx } σ H1 else D.nx σ H1
theorem yii {c : Expr} {body : List Stmt} {tc : TT} {tb : TS} (hp : PassesOwn (model X.prog X.w) X.A X.env X.xe) (hc : PT X c tc) (hb : PSs X body tb) : PS X (.While c body [] pos) (tWhile tc tb) := by
 intro pins s σ H D I h
 obtain ⟨W, ⟨m0, w0⟩, turn⟩ := h
 refine wpAny_While (codeAny_whileLoop (fun n s' => ∃ σ' H', Inv X pins σ' H' s' /\ W n σ' H') ?_ m0 ⟨σ, H, I, w0⟩)
 rintro n s1 ⟨σ1, H1, I1, w1⟩
 refine zdw hp (thn (hc pins s1 σ1 H1 _ I1 (turn n σ1 H1 w1)) fun b s2 hz => x1_2 hz fun H2 I2 q2 => ?_)
 cases b with
 | true =>
  refine x1_2 q2 fun N hN q2 => ?_
  rw [if_pos rfl]
  refine zdw hp (thn (hb pins s2 σ1 H2 _ I2 q2) fun f s3 q3 => ?_)
  cases f with
  | next =>
   refine x2_2 q3 fun σ3 H3 I3 n3 => ?_; clear q3
   refine x1_2 (hN σ3 H3 n3) fun m' hm w3 => ?_
   exact ⟨m', hm, σ3, H3, I3, w3⟩
  | cont =>
   refine x2_2 q3 fun σ3 H3 I3 n3 => ?_; clear q3
   refine x1_2 (hN σ3 H3 n3) fun m' hm w3 => ?_
   exact ⟨m', hm, σ3, H3, I3, w3⟩
  | brk => exact q3
  | ret v => exact q3
 | false =>
  rw [if_neg zav]
  exact zik ⟨σ1, H2, I2, q2⟩
end
structure It where
 go : Nat -> Hp -> Prop
 yld : Nat -> Hp -> V -> Hp -> Prop
 stop : Nat -> Hp -> Prop
noncomputable def FpOk (X : Cx) (pins : List (Addr × Obj)) (H : Hp) (b : Addr) : Prop :=
 H b = none /\ b ≠ X.env.locals /\ b ∉ X.fs /\ (b ∈ X.ex ∨ X.s₀.heap.objs.size <= b) /\ (∀ x c, X.env.cells.lookup x = some c -> c ≠ b) /\ ∀ p ∈ X.pn ++ pins, p.1 ≠ b
theorem Inv.fpOk {X : Cx} {pins : List (Addr × Obj)} {σ : St} {H H' : Hp} {s : Shared} {b : Addr} (I : Inv X pins σ H s) (hb : s.heap.objs.size <= b) (hn : H' b = none) : FpOk X pins H' b := by
 refine ⟨hn, zge (zaq I.lt hb), I.nofs hb, .inr (zcb I.sz hb), fun x c e z => ?_, fun p hp z => ?_⟩
 ·refine x1_1 (I.cell x c e) fun v q => ?_
  exact absurd (zaq q.lt (by rw [z]; exact hb)) (Nat.lt_irrefl _)
 ·exact absurd (zaq (zam (I.pin p hp).1) (by rw [z]; exact hb)) (Nat.lt_irrefl _)
structure Turn (P : Program) (w : World) (K : PySem.W.Frag) (tg : Expr) (J : It) (fp : List Addr) (it : Addr) (tn : Nat -> Heap -> Prop) : Prop where
 mem : it ∈ fp
 obj : ∀ i h, tn i h -> ∀ b ∈ fp, ∃ o, h.get? b = some o /\ ∀ v, o.data ≠ .cell v
 keep : ∀ i h h', tn i h -> (∀ b ∈ fp, ∀ o, h.get? b = some o -> h'.get? b = some o) -> tn i h'
 item : ∀ (X : Cx), X.prog = P -> X.w = w -> X.K = K -> X.calm = true -> ∀ (i : Nat) (pins : List (Addr × Obj)) (s : Shared) (σ : St) (H : Hp) (E : Value -> Shared -> Prop), Inv X pins σ H s -> (∀ b ∈ fp, FpOk X pins H b) -> tn i s.heap -> J.go i H ->
  wpAny (model P w) X.A (pyNext (.ref it)) (fun r s1 => ∃ u, r = some u /\
   wpAny (model P w) X.A (letOwnedTupleGo tg (.ref it) u) (fun _ s2 => ∃ x H', Inv X pins σ H' s2 /\ RelV x u /\ J.yld i H x H' /\ tn (i + 1) s2.heap /\ ∀ b ∈ fp, H' b = none) E s1) E s
 done : ∀ (X : Cx), X.prog = P -> X.w = w -> X.K = K -> X.calm = true -> ∀ (i : Nat) (pins : List (Addr × Obj)) (s : Shared) (σ : St) (H : Hp) (E : Value -> Shared -> Prop), Inv X pins σ H s -> (∀ b ∈ fp, FpOk X pins H b) -> tn i s.heap -> J.stop i H ->
  wpAny (model P w) X.A (pyNext (.ref it)) (fun r s1 => r = none /\ Inv X pins σ H s1) E s
 self : ∀ (A : Around) (i : Nat) (s : Shared) (Q : Value -> Shared -> Prop) (E : Value -> Shared -> Prop), tn i s.heap -> Q (.ref it) s -> wpAny (model P w) A (pyIter (.ref it)) Q E s
noncomputable abbrev TI := St -> Hp -> (It -> Hp -> Prop) -> Prop
noncomputable def PIE (X : Cx) (pins : List (Addr × Obj)) (σ : St) (tg : Expr) (R : It -> Hp -> Prop) (itv : Value) (s2 : Shared) : Prop :=
 ∃ (it : Addr) (fp : List Addr) (tn : Nat -> Heap -> Prop) (J : It) (H' : Hp), itv = .ref it /\ Inv X pins σ H' s2 /\ Turn X.prog X.w X.K tg J fp it tn /\ tn 0 s2.heap /\ (∀ b ∈ fp, FpOk X pins H' b) /\ R J H'
noncomputable def PI (X : Cx) (tg iter : Expr) (wi : TI) : Prop :=
 ∀ (pins : List (Addr × Obj)) (s : Shared) (σ : St) (H : Hp) (R : It -> Hp -> Prop), Inv X pins σ H s -> wi σ H R ->
  wpAny (model X.prog X.w) X.A (eval iter X.env) (fun v s1 => wpAny (model X.prog X.w) X.A (pyIter v) (PIE X pins σ tg R) X.xe s1) X.xe s
theorem ypd {M : Model} {A : Around} {E : Value -> Shared -> Prop} {s : Shared} {tg : Expr} {it : Addr} {u : Value} {o : Obj} {n : String} {vs : Array Value} {Q : Unit -> Shared -> Prop} (ho : s.heap.get? it = some o) (hc : o.cls = .type n) (hd : o.data = .fields vs)
    (hn : ["enumerate", "zip", "dict_itemiterator", "dict_reverseitemiterator", "odict_iterator", "itertools.zip_longest", "itertools.pairwise"].contains n = false) (hQ : Q () s) : wpAny M A (letOwnedTupleGo tg (.ref it) u) Q E s := by
  unfold letOwnedTupleGo
  cases tg <;> first
    | exact zag hQ
    | (cases u <;> first
        | exact zag hQ
        | (refine zac (wpAny_load ho ?_)
           rw [hc, hd]
           show wpAny M A (if (["enumerate", "zip", "dict_itemiterator", "dict_reverseitemiterator", "odict_iterator", "itertools.zip_longest", "itertools.pairwise"].contains n && vs[0]? == some (rawInt _)) = true then _ else _) Q E s
           rw [if_neg (by intro h; rw [hn, Bool.false_and] at h; cases h)]
           exact zag hQ))
noncomputable def Itl (K : PySem.W.Frag) (a : Addr) : It :=
 ⟨fun i H => ∃ xs x, SqL K H a xs /\ xs[i]? = some x, fun i H x H' => H' = H /\ ∀ xs, SqL K H a xs -> xs[i]? = some x, fun i H => ∃ xs, SqL K H a xs /\ xs.length <= i⟩
noncomputable def Itt (K : PySem.W.Frag) (a : Addr) : It :=
 ⟨fun i H => ∃ xs x, SqT K H a xs /\ xs[i]? = some x, fun i H x H' => H' = H /\ ∀ xs, SqT K H a xs -> xs[i]? = some x, fun i H => ∃ xs, SqT K H a xs /\ xs.length <= i⟩
noncomputable def Itr (lo : Int) (n : Nat) : It := ⟨fun i _ => i < n, fun i H x H' => H' = H /\ x = .int (lo + i), fun i _ => n <= i⟩
theorem yck {P : Program} {w : World} {K : PySem.W.Frag} {tg : Expr} (a it : Addr) : Turn P w K tg (Itl K a) [it] it (fun i h => h.IsListIter it a i) where
 mem := by simp
 obj := fun i h st b hb => by
  have e : b = it := by simpa using hb
  subst e
  refine x1_3 st fun o e c d => ?_; clear st
  exact ⟨o, e, fun v z => by rw [d] at z; cases z⟩
 keep := fun i h h' st k => st.at fun o e => k it (by simp) o e
 item := by
  intro X hP hw hK hc i pins s σ H E I hf st hg
  subst hP hw hK
  refine x2_2 hg fun xs x hq hx => ?_; clear hg
  refine x1_3 (I.list hq) fun its rv p hz => ?_
  refine x1_2 (rv.get hx) fun u hu ru => ?_
  refine x0_6 (hf it (by simp)) fun f0 f1 f2 f3 f4 f5 => ?_
  refine zjl st p.isList (x := u) (by simpa using hu) fun h' st' sb => ?_
  have I1 : Inv X pins σ H { s with heap := h' } := I.turned (t' := s.toks) (fun b o hb e => (sb.2 b hb).trans e) f0 f1 f3 f4 f5
  refine x1_3 (id st') fun o e c d => ?_
  exact ⟨u, rfl, ypd (s := { s with heap := h' }) e c d (by decide) ⟨x, H, I1, ru, ⟨rfl, fun ys hy => by rw [I.list_inj hy hq]; exact hx⟩, st', fun b hb => (hf b hb).1⟩⟩
 done := by
  intro X hP hw hK hc i pins s σ H E I hf st hg
  subst hP hw hK
  refine x1_2 hg fun xs hq hx => ?_; clear hg
  refine x1_3 (I.list hq) fun its rv p hz => ?_
  refine x0_6 (hf it (by simp)) fun f0 f1 f2 f3 f4 f5 => ?_
  have hl := rv.length
  exact zjv (I.ok.hd hc) st p.isList (by simp; omega) fun h' eb => ⟨rfl, I.turned (t' := s.toks) (fun b o hb e => eb b o hb e) f0 f1 f3 f4 f5⟩
 self := fun _ _ _ _ _ st h => wpAny_pyIter_listiter st h
theorem yav {P : Program} {w : World} {K : PySem.W.Frag} {tg : Expr} (a it : Addr) : Turn P w K tg (Itt K a) [it] it (fun i h => h.IsTupleIter it a i) where
 mem := by simp
 obj := fun i h st b hb => by
  have e : b = it := by simpa using hb
  subst e
  refine x1_3 st fun o e c d => ?_; clear st
  exact ⟨o, e, fun v z => by rw [d] at z; cases z⟩
 keep := fun i h h' st k => st.at fun o e => k it (by simp) o e
 item := by
  intro X hP hw hK hc i pins s σ H E I hf st hg
  subst hP hw hK
  refine x2_2 hg fun xs x hq hx => ?_; clear hg
  refine x1_3 (I.tuple hq) fun its rv p hz => ?_
  refine x1_2 (rv.get hx) fun u hu ru => ?_
  refine x0_6 (hf it (by simp)) fun f0 f1 f2 f3 f4 f5 => ?_
  refine wpAny_pyNext_tuple_item st (show s.heap.IsTuple a its.toArray from p) (x := u) (by simpa using hu) fun h' st' sb => ?_
  have I1 : Inv X pins σ H { s with heap := h' } := I.turned (t' := s.toks) (fun b o hb e => (sb.2 b hb).trans e) f0 f1 f3 f4 f5
  refine x1_3 (id st') fun o e c d => ?_
  exact ⟨u, rfl, ypd (s := { s with heap := h' }) e c d (by decide) ⟨x, H, I1, ru, ⟨rfl, fun ys hy => by rw [I.tuple_inj hy hq]; exact hx⟩, st', fun b hb => (hf b hb).1⟩⟩
 done := by
  intro X hP hw hK hc i pins s σ H E I hf st hg
  subst hP hw hK
  refine x1_2 hg fun xs hq hx => ?_; clear hg
  refine x1_3 (I.tuple hq) fun its rv p hz => ?_
  refine x0_6 (hf it (by simp)) fun f0 f1 f2 f3 f4 f5 => ?_
  have hl := rv.length
  exact wpAny_pyNext_tuple_end (I.ok.hd hc) st (show s.heap.IsTuple a its.toArray from p) (by simp; omega) fun h' eb => ⟨rfl, I.turned (t' := s.toks) (fun b o hb e => eb b o hb e) f0 f1 f3 f4 f5⟩
 self := fun _ _ _ _ _ st h => wpAny_pyIter_tupleiter st h
theorem yaw {P : Program} {w : World} {K : PySem.W.Frag} {tg : Expr} (it : Addr) (lo : Int) (n : Nat) : Turn P w K tg (Itr lo n) [it] it (fun i h => IsRangeIter h it (lo + (i : Nat) * 1) ((n : Int) - (i : Nat)) 1) where
 mem := by simp
 obj := fun i h st b hb => by
  have e : b = it := by simpa using hb
  subst e
  exact ⟨_, st, fun v z => by
   have z' : Data.fields _ = Data.cell v := z
   cases z'⟩
 keep := fun i h h' st k => k it (by simp) _ st
 item := by
  intro X hP hw hK hc i pins s σ H E I hf st hg
  subst hP hw hK
  refine x0_6 (hf it (by simp)) fun f0 f1 f2 f3 f4 f5 => ?_
  have W := Walks.range (prog := X.prog) (w := X.w) (I.ok.hd hc) it lo 1 n
  refine W.item i s _ _ hg st fun v h' tk hv st' kk => ?_
  refine x1_1 hv fun t qz1 => ?_; clear hv; subst qz1
  have I1 : Inv X pins σ H { s with heap := h', toks := tk } := I.turned (fun b o hb e => kk b o (by simpa using hb) e) f0 f1 f3 f4 f5
  refine ⟨_, rfl, ypd (s := { s with heap := h', toks := tk }) (n := "range_iterator") st' rfl rfl (by decide) ⟨.int (lo + i), H, I1, ⟨t, ?_⟩, ⟨rfl, rfl⟩, st', fun b hb => (hf b hb).1⟩⟩
  rw [zjk]
 done := by
  intro X hP hw hK hc i pins s σ H E I hf st hg
  subst hP hw hK
  refine x0_6 (hf it (by simp)) fun f0 f1 f2 f3 f4 f5 => ?_
  exact wpAny_pyNext_range_end (I.ok.hd hc) st (by have : n <= i := hg; omega) fun h' eb => ⟨rfl, I.turned (t' := s.toks) (fun b o hb e => eb b o hb e) f0 f1 f3 f4 f5⟩
 self := fun _ _ _ _ _ st h => wpAny_pyIter_rangeiter st h
end L2
namespace L2
open PySem PySem.Spec PyProof.Rows
section
variable {X : Cx} {tg : Expr}
noncomputable def iList (K : PySem.W.Frag) (tl : TE) : TI := fun σ H R => tl σ H fun x H1 => ∃ a, x = .ref a /\ (∃ xs, SqL K H1 a xs) /\ R (Itl K a) H1
noncomputable def iTup (K : PySem.W.Frag) (tl : TE) : TI := fun σ H R => tl σ H fun x H1 => ∃ a, x = .ref a /\ (∃ xs, SqT K H1 a xs) /\ R (Itt K a) H1
theorem zya {l : Expr} {tl : TE} (hl : PE X l tl) : PI X tg l (iList X.K tl) := by
 intro pins s σ H R I h
 refine thn (hl pins s σ H _ I h) fun v s1 hz => x2_3 hz fun x H1 I1 r1 q1 => ?_
 obtain ⟨a, e, ⟨xs, hq⟩, q⟩ := q1
 subst e
 cases r1
 refine x1_3 (I1.list hq) fun its rv p hz => ?_
 refine zho p.isList ?_
 refine ⟨s1.heap.objs.size, [s1.heap.objs.size], _, _, H1, rfl, I1.kept (t' := s1.toks) fun b o e => zaf _ e, yck a _, ⟨_, zbe _ rfl, rfl, rfl⟩, fun b hb => ?_, q⟩
 have e : b = s1.heap.objs.size := by simpa using hb
 subst e
 exact I1.fpOk (zai _) (I1.hok.fresh (zai _))
theorem ydv {l : Expr} {tl : TE} (hl : PE X l tl) : PI X tg l (iTup X.K tl) := by
 intro pins s σ H R I h
 refine thn (hl pins s σ H _ I h) fun v s1 hz => x2_3 hz fun x H1 I1 r1 q1 => ?_
 obtain ⟨a, e, ⟨xs, hq⟩, q⟩ := q1
 subst e
 cases r1
 refine x1_3 (I1.tuple hq) fun its rv p hz => ?_
 refine wpAny_pyIter_tuple (show s1.heap.IsTuple a its.toArray from p) ?_
 refine ⟨s1.heap.objs.size, [s1.heap.objs.size], _, _, H1, rfl, I1.kept (t' := s1.toks) fun b o e => zaf _ e, yav a _, ⟨_, zbe _ rfl, rfl, rfl⟩, fun b hb => ?_, q⟩
 have e : b = s1.heap.objs.size := by simpa using hb
 subst e
 exact I1.fpOk (zai _) (I1.hok.fresh (zai _))
theorem zze {pins : List (Addr × Obj)} {σ : St} {H : Hp} {s : Shared} {R : It -> Hp -> Prop} {E : Value -> Shared -> Prop} {lo hi : Int} {t u v : Tok} {tk : Nat} (I : Inv X pins σ H s) (h1 : -(2 ^ 62) <= lo) (h2 : lo < 2 ^ 62) (h3 : -(2 ^ 62) <= hi) (h4 : hi < 2 ^ 62)
  (q : R (Itr lo (hi - lo).toNat) H) : wpAny (model X.prog X.w) X.A (pyIter (.ref s.heap.objs.size)) (PIE X pins σ tg R) E { s with heap := s.heap.push { cls := .type "range", data := .fields #[.int lo t, .int hi u, .int 1 v] }, toks := tk } := by
 refine wpAny_pyIter_range (IsRange.new ..) (small_one h1 h2 h3 h4) ?_
 have I1 : Inv X pins σ H { s with heap := s.heap.push { cls := .type "range", data := .fields #[.int lo t, .int hi u, .int 1 v] }, toks := tk } := I.kept fun b o e => zaf _ e
 refine ⟨(s.heap.push { cls := .type "range", data := .fields #[.int lo t, .int hi u, .int 1 v] }).objs.size, [(s.heap.push { cls := .type "range", data := .fields #[.int lo t, .int hi u, .int 1 v] }).objs.size], _, _, H, rfl,
  I1.kept (t' := tk) fun b o e => zaf _ e, yaw _ lo (hi - lo).toNat, ?_, fun b hb => ?_, q⟩
 ·have e1 : lo + ((0 : Nat) : Int) * 1 = lo := by simp
  have e2 : (((hi - lo).toNat : Nat) : Int) - ((0 : Nat) : Int) = Builtin.Range.rangeSize lo hi 1 := by rw [rangeSize_one]; split <;> omega
  show IsRangeIter _ _ (lo + ((0 : Nat) : Int) * 1) ((((hi - lo).toNat : Nat) : Int) - ((0 : Nat) : Int)) 1
  rw [e1, e2]
  exact zbe _ rfl
 ·have e : b = (s.heap.push { cls := .type "range", data := .fields #[.int lo t, .int hi u, .int 1 v] }).objs.size := by simpa using hb
  subst e
  exact I1.fpOk (zai _) (I1.hok.fresh (zai _))
noncomputable def iRng1 (ta : TA) : TI := fun σ H R => ta σ H fun vs H1 => ∃ j : Int, vs = [.int j] /\ -(2 ^ 62) <= j /\ j < 2 ^ 62 /\ R (Itr 0 j.toNat) H1
noncomputable def iRng2 (ta : TA) : TI := fun σ H R => ta σ H fun vs H1 => ∃ i j : Int, vs = [.int i, .int j] /\ (-(2 ^ 62) <= i /\ i < 2 ^ 62 /\ -(2 ^ 62) <= j /\ j < 2 ^ 62) /\ R (Itr i (j - i).toNat) H1
theorem zwp {a : Expr} {ta : TA} {p pos : Pos} (hg : Gl X "range") (hm : X.mg "range" = none) (ha : PA X [a] ta) (hs : starEach [a] X.env = [(false, eval a X.env)] := by rfl) : PI X tg (.Call (.Name "range" p) [a] [] pos) (iRng1 ta) := by
 intro pins s σ H R I h
 refine Call_ (zoz I hg hm boot_range (zce (thn (ha pos pins s σ H _ I h) fun us s1 ⟨vs, H1, I1, r1, q1⟩ => ?_) hs rfl))
 obtain ⟨j, e, q1, q2, q⟩ := q1
 subst e
 cases r1 with
 | cons r rr =>
  cases rr
  obtain ⟨t, rfl⟩ := r
  exact call_range_1 (zze I1 (by omega) (by omega) q1 q2 (by simpa using q))
theorem zwo {a b : Expr} {ta : TA} {p pos : Pos} (hg : Gl X "range") (hm : X.mg "range" = none) (ha : PA X [a, b] ta) (hs : starEach [a, b] X.env = [(false, eval a X.env), (false, eval b X.env)] := by rfl) (hs2 : starEach [b] X.env = [(false, eval b X.env)] := by rfl) :
  PI X tg (.Call (.Name "range" p) [a, b] [] pos) (iRng2 ta) := by
 intro pins s σ H R I h
 refine Call_ (zoz I hg hm boot_range (zce (thn (ha pos pins s σ H _ I h) fun us s1 hz => x2_3 hz fun vs H1 I1 r1 q1 => ?_) (by rw [hs, hs2]) (by rw [hs2]; rfl)))
 obtain ⟨i, j, e, ⟨q1, q2, q3, q4⟩, q⟩ := q1
 subst e
 cases r1 with
 | cons r rr =>
  cases rr with
  | cons r' rr =>
   cases rr
   refine x1_1 r fun t qz1 => ?_; clear r; subst qz1
   refine x1_1 r' fun t' qz1 => ?_; clear r'; subst qz1
   exact call_range_2 (zze I1 q1 q2 q3 q4 q)
noncomputable def tFor (wi : TI) (g : TG) (tb : TS) : TS := fun D σ H => wi σ H fun J H1 => ∃ W : Nat -> Nat -> St -> Hp -> Prop, (∃ m, W 0 m σ H1) /\ ∀ i m σ H, W i m σ H ->
 (J.stop i H /\ D.nx σ H) ∨ (J.go i H /\ ∃ N : St -> Hp -> Prop, (∀ σ' H', N σ' H' -> ∃ m', m' < m /\ W (i + 1) m' σ' H') /\ ∀ x H', J.yld i H x H' -> g x σ H' fun σ2 H2 => tb { D with nx := N, ct := N, bk := D.nx } σ2 H2)
noncomputable def ztm (fp : List Addr) (h : Heap) : List (Addr × Obj) := fp.filterMap fun b => (h.get? b).map fun o => (b, o)
theorem zoa {fp : List Addr} {h : Heap} {b : Addr} {o : Obj} (hb : b ∈ fp) (e : h.get? b = some o) : (b, o) ∈ ztm fp h := zef.mpr ⟨b, hb, by rw [e]; rfl⟩
theorem yec {fp : List Addr} {h : Heap} {p : Addr × Obj} (hp : p ∈ ztm fp h) : p.1 ∈ fp /\ h.get? p.1 = some p.2 := by
 refine x1_2 (zef.mp hp) fun b hb e => ?_
 cases q : h.get? b with
 | none => rw [q] at e; cases e
 | some o =>
  rw [q] at e
  have e' : (b, o) = p := zbk e
  subst e'
  exact ⟨hb, q⟩
theorem Inv.pinned {pins : List (Addr × Obj)} {σ : St} {H : Hp} {s : Shared} {fp : List Addr} (I : Inv X pins σ H s) (hf : ∀ b ∈ fp, FpOk X pins H b) (ho : ∀ b ∈ fp, ∃ o, s.heap.get? b = some o /\ ∀ v, o.data ≠ .cell v) : Inv X (pins ++ ztm fp s.heap) σ H s :=
 I.pins_of fun p hp => (zcc.mp hp).elim (fun z => I.pin p (zbo _ z)) fun z => by
  refine x0_2 (yec z) fun hb e => ?_
  refine x0_4 (hf p.1 hb) fun f0 f1 f2 _ => ?_
  refine x1_2 (ho p.1 hb) fun o e' d => ?_
  rw [e] at e'; cases e'
  exact ⟨e, f0, f1, f2, d⟩
theorem Inv.unpinned {pins pl : List (Addr × Obj)} {σ : St} {H : Hp} {s : Shared} (I : Inv X (pins ++ pl) σ H s) : Inv X pins σ H s := I.pins_of fun p hp => I.pin p (zbo _ (zdu _ hp))
theorem ps_for {iter : Expr} {body : List Stmt} {wi : TI} {g : TG} {tb : TS} {pos : Pos} (hp : PassesOwn (model X.prog X.w) X.A X.env X.xe) (hc : X.calm = true) (hi : PI X tg iter wi) (hg : PG X tg g) (hb : PSs X body tb)
  (hs : ∀ x, foldedSetIterable iter X.env x = pure x := by intro _; rfl) : PS X (.For tg iter body [] pos) (tFor wi g tb) := by
 intro pins s σ H D I h
 refine wpAny_For (thn (hi pins s σ H _ I h) fun v s1 h1 => thn h1 fun itv s2 h2 => ?_) hs
 obtain ⟨it, fp, tn, J, H2, e, I2, T, st2, f2, W, ⟨m0, w0⟩, turn⟩ := h2
 subst e
 have stat : ∀ {H' : Hp}, (∀ b ∈ fp, H' b = none) -> ∀ b ∈ fp, FpOk X pins H' b := fun hn b hb => ⟨hn b hb, (f2 b hb).2⟩
 refine codeAny_forLoop_any (fun n s' => ∃ i σ' H', Inv X pins σ' H' s' /\ tn i s'.heap /\ (∀ b ∈ fp, H' b = none) /\ W i n σ' H') ?_ m0 ⟨0, σ, H2, I2, st2, fun b hb => (f2 b hb).1, w0⟩
 rintro n s3 ⟨i, σ3, H3, I3, st3, fr3, w3⟩
 rcases turn i n σ3 H3 w3 with ⟨stop, qn⟩ | ⟨go, N, hN, step⟩
 ·refine zdw hp (thn (T.done X rfl rfl rfl hc i pins s3 σ3 H3 X.xe I3 (stat fr3) st3 stop) fun r s4 hz => x0_2 hz fun hr I4 => ?_)
  subst hr
  exact zik ⟨σ3, H3, I4, qn⟩
 ·refine zdw hp (thn (T.item X rfl rfl rfl hc i pins s3 σ3 H3 X.xe I3 (stat fr3) st3 go) fun r s4 hz => x1_2 hz fun u hr h4 => ?_)
  subst hr
  refine zdw hp (thn h4 fun _ s5 hz => x2_5 hz fun x H5 I5 r5 y5 st5 fr5 => ?_)
  have I5' := I5.pinned (stat fr5) (T.obj _ _ st5)
  refine zdw hp (thn (hg _ s5 σ3 H5 x u _ I5' r5 (step x H5 y5)) fun _ s6 hz => x2_2 hz fun σ6 H6 I6 q6 => ?_)
  refine zdw hp (thn (hb _ s6 σ6 H6 _ I6 q6) fun f s7 q7 => ?_)
  have again : ∀ {σ7 : St} {H7 : Hp}, Inv X (pins ++ ztm fp s5.heap) σ7 H7 s7 -> N σ7 H7 -> ∃ m, m < n /\ ∃ i σ' H', Inv X pins σ' H' s7 /\ tn i s7.heap /\ (∀ b ∈ fp, H' b = none) /\ W i m σ' H' := fun {σ7 H7} I7 n7 => by
   refine x1_2 (hN σ7 H7 n7) fun m' hm w7 => ?_
   refine ⟨m', hm, i + 1, σ7, H7, I7.unpinned, T.keep _ _ _ st5 fun b hb o e => (I7.pin (b, o) (zbo _ (zbo _ (zoa hb e)))).1, fun b hb => ?_, w7⟩
   refine x1_2 (T.obj _ _ st5 b hb) fun o e d => ?_
   exact (I7.pin (b, o) (zbo _ (zbo _ (zoa hb e)))).2.1
  cases f with
  | next => refine x2_2 q7 fun σ7 H7 I7 n7 => ?_; clear q7; exact again I7 n7
  | cont => refine x2_2 q7 fun σ7 H7 I7 n7 => ?_; clear q7; exact again I7 n7
  | brk => refine x2_2 q7 fun σ7 H7 I7 q7 => ?_; exact ⟨σ7, H7, I7.unpinned, q7⟩
  | ret v => refine x3_3 q7 fun x7 σ7 H7 I7 r7 q7 => ?_; exact ⟨x7, σ7, H7, I7.unpinned, r7, q7⟩
end
end L2
namespace L2
open PySem PySem.Spec PyProof.Rows
noncomputable abbrev R2 := V -> V -> Hp -> VK -> Prop
noncomputable def OpR (X : Cx) (f : Value -> Value -> Sem Value) (r : R2) : Prop :=
 ∀ (pins : List (Addr × Obj)) (s : Shared) (σ : St) (H : Hp) (x y : V) (v u : Value) (Q : VK), Inv X pins σ H s -> RelV x v -> RelV y u -> r x y H Q ->
  wpAny (model X.prog X.w) X.A (f v u) (EP X pins σ Q) X.xe s
noncomputable def UnR (X : Cx) (f : Value -> Sem Value) (r : V -> Hp -> VK -> Prop) : Prop :=
 ∀ (pins : List (Addr × Obj)) (s : Shared) (σ : St) (H : Hp) (x : V) (v : Value) (Q : VK), Inv X pins σ H s -> RelV x v -> r x H Q ->
  wpAny (model X.prog X.w) X.A (f v) (EP X pins σ Q) X.xe s
noncomputable def zvm (X : Cx) (f : Value) (r : List V -> Hp -> VK -> Prop) : Prop :=
 ∀ (pins : List (Addr × Obj)) (s : Shared) (σ : St) (H : Hp) (xs : List V) (us : List Value) (Q : VK), Inv X pins σ H s -> Vals xs us -> r xs H Q ->
  wpAny (model X.prog X.w) X.A (call f us) (EP X pins σ Q) X.xe s
noncomputable def tOp (r : R2) (ta tb : TE) : TE := fun σ H Q => ta σ H fun x H1 => tb σ H1 fun y H2 => r x y H2 Q
noncomputable def tUn (r : V -> Hp -> VK -> Prop) (ta : TE) : TE := fun σ H Q => ta σ H fun x H1 => r x H1 Q
noncomputable def rI (C : Int -> Int -> Prop) (g : Int -> Int -> V) : R2 := fun x y H Q => ∃ i j, x = .int i /\ y = .int j /\ C i j /\ Q (g i j) H
noncomputable def rI0 (g : Int -> Int -> V) : R2 := fun x y H Q => ∃ i j, x = .int i /\ y = .int j /\ Q (g i j) H
noncomputable def rU (g : Int -> V) : V -> Hp -> VK -> Prop := fun x H Q => ∃ i, x = .int i /\ Q (g i) H
section
variable {X : Cx} {a b c : Expr} {ta tb tc : TE} {pos : Pos}
theorem binT (ha : PE X a ta) (hb : PE X b tb) {pins : List (Addr × Obj)} {s : Shared} {σ : St} {H : Hp} {R : V -> V -> Hp -> Prop} (I : Inv X pins σ H s)
  (h : ta σ H fun x H1 => tb σ H1 fun y H2 => R x y H2) {Q : Value -> Shared -> Prop} {f : Value -> Value -> Sem Value}
  (hf : ∀ v u s2 x y H2, Inv X pins σ H2 s2 -> RelV x v -> RelV y u -> R x y H2 -> wpAny (model X.prog X.w) X.A (f v u) Q X.xe s2) :
  wpAny (model X.prog X.w) X.A (eval a X.env) (fun v s₁ => wpAny (model X.prog X.w) X.A (eval b X.env) (fun u s₂ => wpAny (model X.prog X.w) X.A (f v u) Q X.xe s₂) X.xe s₁) X.xe s := by
 refine thn (ha pins s σ H _ I h) fun v s1 hz => x2_3 hz fun x H1 I1 r1 q1 => ?_
 refine thn (hb pins s1 σ H1 _ I1 q1) fun u s2 hz => x2_3 hz fun y H2 I2 r2 q2 => ?_
 exact hf v u s2 x y H2 I2 r1 r2 q2
theorem ynw {op : Operator} {r : R2} (ho : OpR X (binaryOp op) r) (ha : PE X a ta) (hb : PE X b tb) : PE X (.BinOp a op b pos) (tOp r ta tb) := by
 intro pins s σ H Q I h
 exact wpAny_BinOp (binT ha hb I h fun v u s2 x y H2 I2 rx ry q => ho pins s2 σ H2 x y v u Q I2 rx ry q)
theorem pe_un {op : UnaryOp} {r : V -> Hp -> VK -> Prop} (ho : UnR X (unaryOp op) r) (ha : PE X a ta) : PE X (.UnaryOp op a pos) (tUn r ta) := by
 intro pins s σ H Q I h
 exact UnaryOp_ (thn (ha pins s σ H _ I h) fun v s1 hz => x2_3 hz fun x H1 I1 r1 q1 => ho pins s1 σ H1 x v Q I1 r1 q1)
theorem opI {f : Value -> Value -> Sem Value} {C : Int -> Int -> Prop} {g : Int -> Int -> Int}
  (rule : ∀ (i j : Int) (t u : Tok) (s : Shared) (Q : Value -> Shared -> Prop) (E : Value -> Shared -> Prop), C i j -> Q (.int (g i j) s.toks) { s with toks := s.toks + 1 } -> wpAny (model X.prog X.w) X.A (f (.int i t) (.int j u)) Q E s) :
  OpR X f (rI C fun i j => .int (g i j)) := by
 intro pins s σ H x y v u Q I rx ry h
 refine x2_4 h fun i j qz2 qz3 hc q => ?_; clear h; subst qz2; subst qz3
 refine x1_1 rx fun t qz1 => ?_; clear rx; subst qz1
 refine x1_1 ry fun t' qz1 => ?_; clear ry; subst qz1
 exact rule i j t t' s _ _ hc ⟨.int (g i j), H, I.tok _, ⟨_, rfl⟩, q⟩
theorem opI0 {f : Value -> Value -> Sem Value} {g : Int -> Int -> Int}
  (rule : ∀ (i j : Int) (t u : Tok) (s : Shared) (Q : Value -> Shared -> Prop) (E : Value -> Shared -> Prop), Q (.int (g i j) s.toks) { s with toks := s.toks + 1 } -> wpAny (model X.prog X.w) X.A (f (.int i t) (.int j u)) Q E s) :
  OpR X f (rI0 fun i j => .int (g i j)) := by
 intro pins s σ H x y v u Q I rx ry h
 refine x2_3 h fun i j qz2 qz3 q => ?_; clear h; subst qz2; subst qz3
 refine x1_1 rx fun t qz1 => ?_; clear rx; subst qz1
 refine x1_1 ry fun t' qz1 => ?_; clear ry; subst qz1
 exact rule i j t t' s _ _ ⟨.int (g i j), H, I.tok _, ⟨_, rfl⟩, q⟩
theorem opB0 {f : Value -> Value -> Sem Value} {g : Int -> Int -> Bool}
  (rule : ∀ (i j : Int) (t u : Tok) (s : Shared) (Q : Value -> Shared -> Prop) (E : Value -> Shared -> Prop), Q (.bool (g i j)) s -> wpAny (model X.prog X.w) X.A (f (.int i t) (.int j u)) Q E s) :
  OpR X f (rI0 fun i j => .bl (g i j)) := by
 intro pins s σ H x y v u Q I rx ry h
 refine x2_3 h fun i j qz2 qz3 q => ?_; clear h; subst qz2; subst qz3
 refine x1_1 rx fun t qz1 => ?_; clear rx; subst qz1
 refine x1_1 ry fun t' qz1 => ?_; clear ry; subst qz1
 exact rule i j t t' s _ _ ⟨.bl (g i j), H, I, rfl, q⟩
noncomputable def CDiv (i j : Int) : Prop := 0 < j /\ j < 1073741824
noncomputable def CPow (i j : Int) : Prop := 0 <= j /\ j <= 1000000 /\ i.natAbs < 2 ^ 64
noncomputable def CMul (i j : Int) : Prop := (-(2 ^ 64) < i /\ i < 2 ^ 64) ∨ (-(2 ^ 64) < j /\ j < 2 ^ 64)
theorem CMul.ok {i j : Int} (h : CMul i j) : IntMulOk i j := by
 rcases h with ⟨h1, h2⟩ | ⟨h1, h2⟩
 ·exact .of_left (intBits_le_64 h1 h2)
 ·exact .of_right (intBits_le_64 h1 h2)
theorem op_add : OpR X (binaryOp .Add) (rI0 fun i j => .int (i + j)) := opI0 fun _ _ _ _ _ _ _ q => add_int q
theorem op_sub : OpR X (binaryOp .Sub) (rI0 fun i j => .int (i - j)) := opI0 fun _ _ _ _ _ _ _ q => sub_int q
theorem op_mul : OpR X (binaryOp .Mult) (rI CMul fun i j => .int (i * j)) := opI fun _ _ _ _ _ _ _ hc q => mul_int q hc.ok
theorem op_fdiv : OpR X (binaryOp .FloorDiv) (rI CDiv fun i j => .int (i / j)) := opI fun i j _ _ _ _ _ hc q => by
 have h1 : (0 : Int) < j := hc.1
 have h2 : j < 1073741824 := hc.2
 exact floordiv_int (by omega) (by rw [zfb i (by omega)]; exact q) (.inl (PyProof.noPylong_small (by omega)))
theorem op_mod : OpR X (binaryOp .Mod) (rI (fun _ j => 0 < j) fun i j => .int (i % j)) := opI fun i j _ _ _ _ _ hc q => by
 have h1 : (0 : Int) < j := hc
 exact mod_int' (by omega) (by rw [zdv i (by omega)]; exact q)
theorem yoh : OpR X (binaryOp .Mod) (rI (fun _ j => j ≠ 0) fun i j => .int (i.fmod j)) := opI fun _ _ _ _ _ _ _ hc q => mod_int' hc q
theorem op_pow : OpR X (binaryOp .Pow) (rI CPow fun i j => .int (i ^ j.toNat)) := opI fun _ _ _ _ _ _ _ hc q => pow_int_small hc.1 hc.2.1 hc.2.2 q
theorem unI {f : Value -> Sem Value} {g : Int -> Int}
  (rule : ∀ (i : Int) (t : Tok) (s : Shared) (Q : Value -> Shared -> Prop) (E : Value -> Shared -> Prop), Q (.int (g i) s.toks) { s with toks := s.toks + 1 } -> wpAny (model X.prog X.w) X.A (f (.int i t)) Q E s) :
  UnR X f (rU fun i => .int (g i)) := by
 intro pins s σ H x v Q I rx h
 refine x1_2 h fun i qz1 q => ?_; clear h; subst qz1
 refine x1_1 rx fun t qz1 => ?_; clear rx; subst qz1
 exact rule i t s _ _ ⟨.int (g i), H, I.tok _, ⟨_, rfl⟩, q⟩
theorem un_neg : UnR X (unaryOp .USub) (rU fun i => .int (-i)) := unI fun _ _ _ _ _ q => neg_int q
end
noncomputable def scal : V -> V -> Bool
 | .non, .non => true | .non, .int _ => true | .int _, .non => true | .non, .bl _ => true | .bl _, .non => true | .non, .str _ => true | .str _, .non => true
 | .int _, .int _ => true | .bl _, .bl _ => true | .str _, .str _ => true | .byt _, .byt _ => true
 | .int _, .str _ => true | .str _, .int _ => true | .bl _, .str _ => true | .str _, .bl _ => true
 | _, _ => false
noncomputable def rEq : R2 := fun x y H Q => scal x y = true /\ Q (.bl (decide (x = y))) H
noncomputable def rNe : R2 := fun x y H Q => scal x y = true /\ Q (.bl (!decide (x = y))) H
theorem zva {i j : Int} : decide (V.int i = V.int j) = (i == j) := by
 rw [zex]
 simp
theorem yak {i j : Bool} : decide (V.bl i = V.bl j) = (i == j) := by
 rw [zex]
 simp
theorem yfr {i j : Str} : decide (V.str i = V.str j) = (i == j) := by
 rw [zex]
 simp
theorem yfs {i j : Array UInt8} : decide (V.byt i = V.byt j) = (i.toList == j.toList) := by
 rw [zex]
 cases i
 cases j
 simp
section
variable {X : Cx} {a b c : Expr} {ta tb tc : TE} {pos : Pos}
theorem zkq {pins : List (Addr × Obj)} {σ : St} {H : Hp} {s : Shared} {Q : VK} {k k' : Bool} (I : Inv X pins σ H s) (q : Q (.bl k) H) (e : k = k') : EP X pins σ Q (.bool k') s := by
 subst e
 exact ⟨.bl k, H, I, rfl, q⟩
theorem op_eq : OpR X (compareOp .Eq) rEq := by
 intro pins s σ H x y v u Q I rx ry h
 refine x0_2 h fun hs q => ?_; clear h
 cases x with
 | non =>
  cases rx
  cases y with
  | non => cases ry; exact PySem.EqNone.eq_none_none (zkq I q (by simp))
  | bl j => cases ry; exact PySem.EqNone.eq_none_bool (zkq I q (by simp))
  | int j => refine x1_1 ry fun t' qz1 => ?_; clear ry; subst qz1; exact PySem.EqNone.eq_none_int (zkq I q (by simp))
  | str j => refine x1_1 ry fun t' qz1 => ?_; clear ry; subst qz1; exact PySem.EqNone.eq_none_str (zkq I q (by simp))
  | _ => exact absurd (show false = true from hs) zav
 | bl i =>
  cases rx
  cases y with
  | non => cases ry; exact PySem.EqNone.eq_bool_none (zkq I q (by simp))
  | bl j => cases ry; exact eq_bool (zkq I q yak)
  | str j => refine x1_1 ry fun t' qz1 => ?_; clear ry; subst qz1; exact PySem.EqMixed.eq_bool_str (zkq I q (by simp))
  | _ => exact absurd (show false = true from hs) zav
 | int i =>
  refine x1_1 rx fun t qz1 => ?_; clear rx; subst qz1
  cases y with
  | non => cases ry; exact PySem.EqNone.eq_int_none (zkq I q (by simp))
  | int j => refine x1_1 ry fun t' qz1 => ?_; clear ry; subst qz1; exact eq_int (zkq I q zva)
  | str j => refine x1_1 ry fun t' qz1 => ?_; clear ry; subst qz1; exact PySem.EqMixed.eq_int_str (zkq I q (by simp))
  | _ => exact absurd (show false = true from hs) zav
 | str i =>
  refine x1_1 rx fun t qz1 => ?_; clear rx; subst qz1
  cases y with
  | non => cases ry; exact PySem.EqNone.eq_str_none (zkq I q (by simp))
  | bl j => cases ry; exact PySem.EqMixed.eq_str_bool (zkq I q (by simp))
  | int j => refine x1_1 ry fun t' qz1 => ?_; clear ry; subst qz1; exact PySem.EqMixed.eq_str_int (zkq I q (by simp))
  | str j => refine x1_1 ry fun t' qz1 => ?_; clear ry; subst qz1; exact eq_str (zkq I q yfr)
  | _ => exact absurd (show false = true from hs) zav
 | byt i =>
  refine x1_1 rx fun t qz1 => ?_; clear rx; subst qz1
  cases y with
  | byt j => refine x1_1 ry fun t' qz1 => ?_; clear ry; subst qz1; exact PySem.W.eq_bytes (zkq I q yfs)
  | _ => exact absurd (show false = true from hs) zav
 | _ => cases y <;> exact absurd (show false = true from hs) zav
theorem op_ne : OpR X (compareOp .NotEq) rNe := by
 intro pins s σ H x y v u Q I rx ry h
 refine x0_2 h fun hs q => ?_; clear h
 cases x with
 | non =>
  cases rx
  cases y with
  | non => cases ry; exact PySem.EqNone.ne_none_none (zkq I q (by simp))
  | bl j => cases ry; exact PySem.EqNone.ne_none_bool (zkq I q (by simp))
  | int j => refine x1_1 ry fun t' qz1 => ?_; clear ry; subst qz1; exact PySem.EqNone.ne_none_int (zkq I q (by simp))
  | str j => refine x1_1 ry fun t' qz1 => ?_; clear ry; subst qz1; exact PySem.EqNone.ne_none_str (zkq I q (by simp))
  | _ => exact absurd (show false = true from hs) zav
 | bl i =>
  cases rx
  cases y with
  | non => cases ry; exact PySem.EqNone.ne_bool_none (zkq I q (by simp))
  | bl j => cases ry; exact ne_bool (zkq I q (congrArg not yak))
  | str j => refine x1_1 ry fun t' qz1 => ?_; clear ry; subst qz1; exact PySem.EqMixed.ne_bool_str (zkq I q (by simp))
  | _ => exact absurd (show false = true from hs) zav
 | int i =>
  refine x1_1 rx fun t qz1 => ?_; clear rx; subst qz1
  cases y with
  | non => cases ry; exact PySem.EqNone.ne_int_none (zkq I q (by simp))
  | int j => refine x1_1 ry fun t' qz1 => ?_; clear ry; subst qz1; exact ne_int (zkq I q (congrArg not zva))
  | str j => refine x1_1 ry fun t' qz1 => ?_; clear ry; subst qz1; exact PySem.EqMixed.ne_int_str (zkq I q (by simp))
  | _ => exact absurd (show false = true from hs) zav
 | str i =>
  refine x1_1 rx fun t qz1 => ?_; clear rx; subst qz1
  cases y with
  | non => cases ry; exact PySem.EqNone.ne_str_none (zkq I q (by simp))
  | bl j => cases ry; exact PySem.EqMixed.ne_str_bool (zkq I q (by simp))
  | int j => refine x1_1 ry fun t' qz1 => ?_; clear ry; subst qz1; exact PySem.EqMixed.ne_str_int (zkq I q (by simp))
  | str j => refine x1_1 ry fun t' qz1 => ?_; clear ry; subst qz1; exact ne_str (zkq I q (congrArg not yfr))
  | _ => exact absurd (show false = true from hs) zav
 | byt i =>
  refine x1_1 rx fun t qz1 => ?_; clear rx; subst qz1
  cases y with
  | byt j => refine x1_1 ry fun t' qz1 => ?_; clear ry; subst qz1; exact PySem.W.ne_bytes (zkq I q (congrArg not yfs))
  | _ => exact absurd (show false = true from hs) zav
 | _ => cases y <;> exact absurd (show false = true from hs) zav
theorem op_lt : OpR X (compareOp .Lt) (rI0 fun i j => .bl (decide (i < j))) := opB0 fun _ _ _ _ _ _ _ q => lt_int q
theorem op_le : OpR X (compareOp .LtE) (rI0 fun i j => .bl (decide (i <= j))) := opB0 fun _ _ _ _ _ _ _ q => le_int q
theorem op_gt : OpR X (compareOp .Gt) (rI0 fun i j => .bl (decide (j < i))) := opB0 fun _ _ _ _ _ _ _ q => gt_int q
theorem op_ge : OpR X (compareOp .GtE) (rI0 fun i j => .bl (decide (j <= i))) := opB0 fun _ _ _ _ _ _ _ q => ge_int q
theorem op_isN : OpR X (compareOp .Is) (fun x y H Q => y = .non /\ Q (.bl (decide (x = .non))) H) := by
 intro pins s σ H x y v u Q I rx ry h
 refine x0_2 h fun qz0 q => ?_; clear h; subst qz0
 cases ry
 refine is_none_gen (zkq I q ?_)
 cases x <;> first
  | (cases rx; rfl)
  | (refine x1_1 rx fun t qz1 => ?_; clear rx; subst qz1; rfl)
theorem yog : OpR X (compareOp .IsNot) (fun x y H Q => y = .non /\ Q (.bl (!decide (x = .non))) H) := by
 intro pins s σ H x y v u Q I rx ry h
 refine x0_2 h fun qz0 q => ?_; clear h; subst qz0
 cases ry
 refine isnot_none_gen (zkq I q ?_)
 cases x <;> first
  | (cases rx; rfl)
  | (refine x1_1 rx fun t qz1 => ?_; clear rx; subst qz1; rfl)
theorem ynx {op : CmpOp} {r : R2} (ho : OpR X (compareOp op) r) (ha : PE X a ta) (hb : PE X b tb) (hm : behindInMarks op b = false) : PE X (.Compare a [op] [b] pos) (tOp r ta tb) := by
 intro pins s σ H Q I h
 exact wpAny_Compare1 (binT ha hb I h fun v u s2 x y H2 I2 rx ry q => ho pins s2 σ H2 x y v u Q I2 rx ry q) hm
noncomputable def tTest (t : TE) : TT := fun σ H Q => t σ H fun x H' => ∃ k, x = .bl k /\ Q k H'
theorem yns {op : CmpOp} {r : R2} (ho : OpR X (compareOp op) r) (ha : PE X a ta) (hb : PE X b tb) (hm : behindInMarks op b = false) : PT X (.Compare a [op] [b] pos) (tTest (tOp r ta tb)) := by
 intro pins s σ H Q I h
 refine wpAny_isTrue_Compare1 (thn (ha pins s σ H _ I h) fun v s1 hz => x2_3 hz fun x H1 I1 r1 q1 => thn (hb pins s1 σ H1 _ I1 q1) fun u s2 hz => x2_3 hz fun y H2 I2 r2 q2 =>
  thn (ho pins s2 σ H2 x y v u _ I2 r1 r2 q2) fun c s3 hz => xeeaaeaa hz fun z H3 I3 r3 k e q3 => ?_) hm
 subst e
 cases r3
 exact zes ⟨H3, I3, q3⟩
theorem zzw : (sizeLine : Nat) < 2 ^ 63 := by rw [zdo]; decide
theorem yat {x : V} {us : List Value} (r : Vals [x] us) : ∃ u, us = [u] /\ RelV x u := by
 cases r with
 | cons r1 r2 => cases r2; exact ⟨_, rfl, r1⟩
theorem ymk {x y : V} {us : List Value} (r : Vals [x, y] us) : ∃ u w', us = [u, w'] /\ RelV x u /\ RelV y w' := by
 cases r with
 | cons r1 r2 =>
  cases r2 with
  | cons r3 r4 => cases r4; exact ⟨_, _, rfl, r1, r3⟩
theorem yke : zvm X (.builtin "abs") (fun xs H Q => ∃ i, xs = [.int i] /\ Q (.int (if i < 0 then -i else i)) H) := by
 intro pins s σ H xs us Q I r h
 refine x1_2 h fun i qz1 q => ?_; clear h; subst qz1
 refine xeaea (yat r) fun u qz1 t qz3 => ?_; subst qz1; subst qz3
 exact call_abs_int fun u tk => ⟨.int (if i < 0 then -i else i), H, I.tok _, ⟨_, rfl⟩, q⟩
theorem ygb (hc : X.calm = true) : zvm X (.builtin "max") (fun xs H Q => ∃ i j, xs = [.int i, .int j] /\ Q (.int (if j > i then j else i)) H) := by
 intro pins s σ H xs us Q I r h
 refine x2_2 h fun i j qz2 q => ?_; clear h; subst qz2
 obtain ⟨u, w', rfl, ⟨t, rfl⟩, ⟨t', rfl⟩⟩ := ymk r
 refine max_two_ints (I.ok.hd hc) fun h' tk k => ⟨_, H, I.kept k, ?_, q⟩
 by_cases hj : j > i
 ·rw [if_pos hj, if_pos hj]; exact ⟨_, rfl⟩
 ·rw [if_neg hj, if_neg hj]; exact ⟨_, rfl⟩
theorem yga (hc : X.calm = true) : zvm X (.builtin "min") (fun xs H Q => ∃ i j, xs = [.int i, .int j] /\ Q (.int (if j < i then j else i)) H) := by
 intro pins s σ H xs us Q I r h
 refine x2_2 h fun i j qz2 q => ?_; clear h; subst qz2
 obtain ⟨u, w', rfl, ⟨t, rfl⟩, ⟨t', rfl⟩⟩ := ymk r
 refine min_two_ints (I.ok.hd hc) fun h' tk k => ⟨_, H, I.kept k, ?_, q⟩
 by_cases hj : j < i
 ·rw [if_pos hj, if_pos hj]; exact ⟨_, rfl⟩
 ·rw [if_neg hj, if_neg hj]; exact ⟨_, rfl⟩
end
end L2
namespace L2
open PySem PySem.Spec PyProof.Rows
structure ObjM (h : Heap) (x dx C : Addr) (mA : Str -> Option Value) : Prop where
 obj : h.get? x = some (PySem.W.instObj C dx)
 ns : h.Ns1 dx mA
 ne : dx ≠ x
section
variable {prog : Program} {w : World} {A : Around} {E : Value -> Shared -> Prop} {s : Shared} {K : PySem.W.Frag} {x dx C f : Addr} {mA : Str -> Option Value} {name : Str} {v : Value}
end
section
variable {P : Program} {w : World} {H H' : Hp} {h h' : Heap} {a C dx : Addr} {fs fs' : List (Str × V)}
theorem ins_get (hok : HOk P w H h) (e : H a = some (.ins C dx fs)) : ∃ mA, ObjM h a dx C mA /\ (∀ f, RelO (fs.lookup f) (mA f)) /\ PySem.Within mA (fs.map (·.1)) /\ fs.length <= 1000 /\ H dx = some (.own a) := by
 obtain ⟨d, z, ne, ob, mA, n, r, q⟩ := (show ObjOk P w H h a (.ins C dx fs) from hok a _ e)
 exact ⟨mA, ⟨ob, n, ne⟩, r, q, z, d⟩
end
section
variable {X : Cx} {pins : List (Addr × Obj)} {σ : St} {H : Hp} {s : Shared} {a C dx : Addr} {fs : List (Str × V)} {f : Str} {v : V} {A : Around} {E : Value -> Shared -> Prop}
end
section
variable {X : Cx} {o e value : Expr} {f : Str} {pos pos' tpos : Pos} {ta tv : TE}
end
section
variable {X : Cx} {pins : List (Addr × Obj)} {σ : St} {H : Hp} {s : Shared} {A : Around} {E : Value -> Shared -> Prop} {Q : Value -> Shared -> Prop} {c : Value} {b : Bool}
end
end L2
namespace L2
open PySem PySem.Spec PyProof.Rows
structure Room (k : Nat) (A : Around) : Prop where
 hd : A.handled = none
 dp : A.depth + 3 * k + 5 < recursionLimit
 un : A.units + 16 * k + 200 < cLine
theorem Room.mono {j k : Nat} {A : Around} (r : Room k A) (h : j <= k) : Room j A := ⟨r.hd, by have := r.dp; omega, by have := r.un; omega⟩
theorem Room.deeper {k : Nat} {A : Around} (r : Room (k + 1) A) (env : Env) : Room k (A.deeper env) :=
 ⟨r.hd, by have := r.dp; show A.depth + 1 + 3 * k + 5 < _; omega, by have := r.un; show A.units + 3 + 16 * k + 200 < _; omega⟩
theorem Room.depth {k : Nat} {A : Around} (r : Room k A) : A.depth < recursionLimit := by have := r.dp; omega
theorem Room.units {k : Nat} {A : Around} (r : Room k A) : A.units + 64 < cLine := by have := r.un; omega
noncomputable def tNil : TA := fun _ H Q => Q [] H
noncomputable def tCons (ta : TE) (tr : TA) : TA := fun σ H Q => ta σ H fun x H1 => tr σ H1 fun xs H2 => Q (x :: xs) H2
section
variable {X : Cx} {e : Expr} {es : List Expr} {te : TE} {t : TA} {pos : Pos}
theorem yea : PA X [] tNil := fun _ _ _ _ H Q I h => zgt ⟨[], H, I, .nil, h⟩
theorem zry (ha : PE X e te) (hr : PA X es t) (hs : starEach (e :: es) X.env = (false, eval e X.env) :: starEach es X.env := by rfl) : PA X (e :: es) (tCons te t) := by
 intro pos pins s σ H Q I h
 rw [hs]
 show wpAny _ _ (spliced ((false, eval e X.env) :: backTo pos (starEach es X.env))) _ _ s
 refine zgn (thn (ha pins s σ H _ I h) fun u s1 hz => x2_3 hz fun x H1 I1 r1 q1 => ?_)
 exact thn (hr pos pins s1 σ H1 _ I1 q1) fun us s2 hz => x2_3 hz fun xs H2 I2 r2 q2 => ⟨x :: xs, H2, I2, .cons r1 r2, q2⟩
noncomputable def tTup (t : TA) : TE := fun σ H Q => t σ H fun xs H1 => xs.length <= sizeLine /\ ∀ p, H1 p = none -> Q (.ref p) (upd H1 p (.tup xs))
noncomputable def tLst (t : TA) : TE := fun σ H Q => t σ H fun xs H1 => xs.length <= sizeLine /\ ∀ p, H1 p = none -> Q (.ref p) (upd H1 p (.lst xs))
theorem pe_tup {x1} (h : PA X es t) : PE X (.Tuple es x1 pos) (tTup t) := by
 intro pins s σ H Q I hq
 refine wpAny_Tuple_spliced (thn (h pos pins s σ H _ I hq) fun us s1 hz => x2_4 hz fun xs H1 I1 r z q => ⟨by rw [<- r.length]; exact z, ?_⟩)
 have hf : H1 s1.heap.objs.size = none := I1.hok.fresh (zai _)
 refine ⟨.ref s1.heap.objs.size, upd H1 s1.heap.objs.size (.tup xs), I1.laid (t' := s1.toks) (fun b u e => zaf _ e) (zai _) ?_, rfl, q _ hf⟩
 exact ⟨z, us, r, ⟨_, zbe _ rfl, rfl, _, rfl⟩⟩
theorem pe_lst (h : PA X es t) : PE X (.List es pos) (tLst t) := by
 intro pins s σ H Q I hq
 refine wpAny_List_spliced (thn (h pos pins s σ H _ I hq) fun us s1 hz => x2_4 hz fun xs H1 I1 r z q => ⟨by rw [<- r.length]; exact z, ?_⟩)
 have hf : H1 s1.heap.objs.size = none := I1.hok.fresh (zai _)
 refine ⟨.ref s1.heap.objs.size, upd H1 s1.heap.objs.size (.lst xs), I1.laid (t' := s1.toks) (fun b u e => zaf _ e) (zai _) ?_, rfl, q _ hf⟩
 exact ⟨z, us, 0, r, zbe _ rfl⟩
end
noncomputable abbrev Sp := List V -> Hp -> VK -> XK -> Prop
noncomputable abbrev CXT := List Env -> Hp -> Shared -> XK -> Value -> Shared -> Prop
structure Env0 (P : Program) (w : World) (K : PySem.W.Frag) (mg : Str -> Option Value) (base : Heap) (A : Around) (outer : List Env) (s : Shared) (H : Hp) : Prop where
 frames : A.frames = some outer
 mod : Mod K mg base
 bs : ∀ b o, base.get? b = some o -> s.heap.get? b = some o /\ H b = none
 bsz : base.objs.size <= s.heap.objs.size
 funs : s.heap.FunFrames base outer
 frf : ∀ b ∈ frs outer, H b = none
 hok : HOk P w H s.heap
 bare : AllBare s.gens
noncomputable def CE (outer : List Env) (P : Program) (w : World) (H : Hp) (s : Shared) (Q : VK) (u : Value) (s' : Shared) : Prop :=
 ∃ v H', s'.os = s.os /\ AllBare s'.gens /\ Un (frs outer) [] H H' s.heap s'.heap /\ HOk P w H' s'.heap /\ RelV v u /\ Q v H'
noncomputable def CR (CX : CXT) (outer : List Env) (P : Program) (w : World) (H : Hp) (s : Shared) (Q : VK) (E : XK) (r : Result) (s' : Shared) : Prop :=
 match r with
 | .ok (.ret u) => CE outer P w H s Q u s'
 | .ok _ => False
 | .error e => CX outer H s E e s'
structure FnOk (P : Program) (w : World) (K : PySem.W.Frag) (mg : Str -> Option Value) (base : Heap) (CX : CXT) (k : Nat) (f : Addr) (fd : FuncData) (ps : List Str) (sp : Sp) : Prop where
 len : ∀ vs H Q E, sp vs H Q E -> vs.length = ps.length
 run : ∀ (A : Around) (outer : List Env) (s : Shared) (H : Hp) (args : Args) (us : List Value) (vs : List V) (Q : VK) (E : XK), Room k A -> Env0 P w K mg base A outer s H -> BindsTo s fd args (ps.zip us) -> Vals vs us -> sp vs H Q E ->
  codeAny (model P w) A (.call (.ref f) args) (CR CX outer P w H s Q E) s
theorem FnOk.mono {P : Program} {w : World} {K : PySem.W.Frag} {mg : Str -> Option Value} {base : Heap} {CX : CXT} {j k : Nat} {f : Addr} {fd : FuncData} {ps : List Str} {sp : Sp} (F : FnOk P w K mg base CX j f fd ps sp) (h : j <= k) :
  FnOk P w K mg base CX k f fd ps sp := ⟨F.len, fun A outer s H args us vs Q E hr => F.run A outer s H args us vs Q E (hr.mono h)⟩
theorem FnOk.imp {P : Program} {w : World} {K : PySem.W.Frag} {mg : Str -> Option Value} {base : Heap} {CX : CXT} {k : Nat} {f : Addr} {fd : FuncData} {ps : List Str} {sp sp' : Sp} (F : FnOk P w K mg base CX k f fd ps sp)
  (h : ∀ vs H Q E, sp' vs H Q E -> sp vs H Q E) : FnOk P w K mg base CX k f fd ps sp' :=
 ⟨fun vs H Q E q => F.len vs H Q E (h _ _ _ _ q), fun A outer s H args us vs Q E hr he hb hv hs => F.run A outer s H args us vs Q E hr he hb hv (h _ _ _ _ hs)⟩
section
variable {X : Cx} {pins : List (Addr × Obj)} {σ : St} {H : Hp} {s s' : Shared}
theorem Inv.env0 (I : Inv X pins σ H s) : Env0 X.prog X.w X.K X.mg X.base X.A X.stack s H :=
 ⟨I.ok.frames, I.ok.mod, I.bs, zcb I.ok.bsz I.sz, I.stack, I.stkFree, I.hok, I.bare⟩
theorem Inv.after {Q : VK} {u : Value} (I : Inv X pins σ H s) (h : CE X.stack X.prog X.w H s Q u s') : EP X pins σ Q u s' := by
 refine x2_6 h fun v H' os bare un hok r q => ?_; clear h
 obtain ⟨hh, g, d, t, os'⟩ := s'
 obtain rfl : os' = s.os := os
 exact ⟨v, H', I.call (h' := hh) (g' := g) (d' := d) (t' := t) (ch := []) un hok bare (fun b z => absurd z (by simp)), r, q⟩
end
noncomputable def tCall (sp : Sp) (dvs : List V) (E : XK) (t : TA) : TE := fun σ H Q => t σ H fun vs H1 => sp (vs ++ dvs) H1 Q E
noncomputable def Binds (K : PySem.W.Frag) (fd : FuncData) (ps : List Str) (ds : List Value) : Prop :=
 ∀ (s : Shared) (us : List Value), K.In s.heap -> (us ++ ds).length = ps.length -> BindsTo s fd ⟨us, []⟩ (ps.zip (us ++ ds))
theorem Binds.all {K : PySem.W.Frag} {fd : FuncData} {ps : List Str} (h : ∀ us : List Value, us.length = ps.length -> bindArgs fd ⟨us, []⟩ = pure (ps.zip us)) : Binds K fd ps [] := fun s us _ hl => by
 rw [zdi] at hl ⊢
 exact .of_eq (h us hl)
noncomputable def ygx (CX : CXT) (X : Cx) (E : XK) : Prop := ∀ (pins : List (Addr × Obj)) (σ : St) (H : Hp) (s : Shared) (e : Value) (s' : Shared), Inv X pins σ H s -> CX X.stack H s E e s' -> X.xe e s'
section
variable {X : Cx} {CX : CXT} {k : Nat} {f C : Addr} {fd : FuncData} {ps : List Str} {sp : Sp} {dvs : List V} {ds : List Value} {E : XK} {x m : Str} {p pos apos : Pos} {e o : Expr} {es : List Expr} {ta : TE} {t : TA}
theorem run_fn {pins : List (Addr × Obj)} {σ : St} {H : Hp} {s : Shared} {Q : VK} {us : List Value} {vs : List V} (F : FnOk X.prog X.w X.K X.mg X.base CX k f fd ps sp) (hr : Room k X.A) (hb : Binds X.K fd ps ds) (hd : Vals dvs ds) (hx : ygx CX X E)
  (I : Inv X pins σ H s) (r : Vals vs us) (h : sp (vs ++ dvs) H Q E) : wpAny (model X.prog X.w) X.A (call (.ref f) us) (EP X pins σ Q) X.xe s := by
 have r2 : Vals (vs ++ dvs) (us ++ ds) := r.append hd
 have hl : (us ++ ds).length = ps.length := by rw [<- r2.length]; exact F.len _ _ _ _ h
 refine wpAny_call (zgm (F.run X.A X.stack s H ⟨us, []⟩ (us ++ ds) (vs ++ dvs) Q E hr I.env0 (hb s us I.kIn hl) r2 h) fun r s' hq => ?_)
 cases r with
 | error e => exact hx pins σ H s e s' I hq
 | ok fl =>
  cases fl with
  | ret u => exact I.after hq
  | next => exact False.elim hq
  | brk => exact False.elim hq
  | cont => exact False.elim hq
theorem ydz (F : FnOk X.prog X.w X.K X.mg X.base CX k f fd ps sp) (hr : Room k X.A) (hg : Gl X x) (hm : X.mg x = some (.ref f)) (hk : PySem.W.keepIn X.K (.ref f) = true) (hb : Binds X.K fd ps ds) (hd : Vals dvs ds) (hx : ygx CX X E)
  (ha : PA X (e :: es) t) (hdb : (x == ("__debug__" : Str)) = false := by decide) (he : starEach (e :: es) X.env = (false, eval e X.env) :: starEach es X.env := by rfl) (hpl : (backTo pos (starEach es X.env)).any (·.1) = false := by rfl) :
  PE X (.Call (.Name x p) (e :: es) [] pos) (tCall sp dvs E t) := by
 intro pins s σ H Q I h
 refine zdf (yov I hg hm ?_ hdb)
 refine PySem.W.callWith_K (h₀ := X.base) I.ok.mod.kin hk (thn (ha pos pins s σ H _ I h) fun us s1 hz => x2_3 hz fun vs H1 I1 r q => ⟨I1.kIn, ?_⟩) he hpl
 exact run_fn F hr hb hd hx I1 r q
end
section
variable {X : Cx} {CX : CXT} {k : Nat} {f C : Addr} {fd : FuncData} {ps ks : List Str} {sp : Sp} {E : XK} {x m : Str} {p pos apos kpos : Pos} {e o : Expr} {es : List Expr} {kws : List Keyword} {te ta : TE} {t tk : TA} {nm : Option Str}
variable {g : List Value -> List Value -> List Value} {gV : List V -> List V -> List V}
end
structure FnScope (N P : List Str) (sc : Scope) : Prop where
 kind : sc.kind = .function
 co : sc.isCoroutine = false
 gen : sc.isGenerator = false
 nd : N.Nodup
 pre : N.take P.length = P
 par : ∀ x ∈ P, sc.names.lookup x = some .local ∨ sc.names.lookup x = some .cell
 nofree : ∀ y ∈ sc.names, y.2 ≠ .free
theorem zxl {kindOf : Str -> Option NameKind} {x : Str} : ∀ {binds : List (Str × Value)} {m : Str -> Option Value}, (∀ v, (x, v) ∉ binds) -> bindL kindOf binds m x = m x
 | [], _, _ => rfl
 | (n, v) :: r, m, h => by
  unfold bindL
  rw [zxl fun w hw => h w (zbl _ hw)]
  split
  ·have : x ≠ n := by rintro rfl; exact h v zca
   simp [this]
  ·rfl
theorem zxn {kindOf : Str -> Option NameKind} {x : Str} : ∀ {binds : List (Str × Value)} {m : Str -> Option Value}, (∀ v, (x, v) ∉ binds) -> bindC kindOf binds m x = m x
 | [], _, _ => rfl
 | (n, v) :: r, m, h => by
  unfold bindC
  rw [zxn fun w hw => h w (zbl _ hw)]
  split
  ·rfl
  ·have : x ≠ n := by rintro rfl; exact h v zca
   simp [this]
theorem zxm {kindOf : Str -> Option NameKind} {x : Str} {v : Value} : ∀ {P : List Str} {vs : List Value} {i : Nat} {m : Str -> Option Value}, P.Nodup -> P[i]? = some x -> vs[i]? = some v -> kindOf x = some .local ->
  bindL kindOf (P.zip vs) m x = some v
 | [], _, _, _, _, h, _, _ => by simp at h
 | _ :: _, [], _, _, _, _, h, _ => by simp at h
 | p :: P, w :: vs, 0, m, nd, h1, h2, hk => by
  simp at h1 h2; subst h1; subst h2
  show bindL kindOf ((p, w) :: P.zip vs) m p = _
  unfold bindL
  rw [zxl fun v hv => (zdh.mp nd).1 (zhl hv).1, if_pos hk]
  simp
 | p :: P, w :: vs, i + 1, m, nd, h1, h2, hk => by
  show bindL kindOf ((p, w) :: P.zip vs) m x = _
  unfold bindL
  exact zxm (i := i) (zdh.mp nd).2 (by simpa using h1) (by simpa using h2) hk
theorem zxo {kindOf : Str -> Option NameKind} {x : Str} {v : Value} : ∀ {P : List Str} {vs : List Value} {i : Nat} {m : Str -> Option Value}, P.Nodup -> P[i]? = some x -> vs[i]? = some v -> kindOf x ≠ some .local ->
  bindC kindOf (P.zip vs) m x = some v
 | [], _, _, _, _, h, _, _ => by simp at h
 | _ :: _, [], _, _, _, _, h, _ => by simp at h
 | p :: P, w :: vs, 0, m, nd, h1, h2, hk => by
  simp at h1 h2; subst h1; subst h2
  show bindC kindOf ((p, w) :: P.zip vs) m p = _
  unfold bindC
  rw [zxn fun v hv => (zdh.mp nd).1 (zhl hv).1, if_neg hk]
  simp
 | p :: P, w :: vs, i + 1, m, nd, h1, h2, hk => by
  show bindC kindOf ((p, w) :: P.zip vs) m x = _
  unfold bindC
  exact zxo (i := i) (zdh.mp nd).2 (by simpa using h1) (by simpa using h2) hk
noncomputable def start (N : List Str) (vs : List V) : St := vs.map some ++ List.replicate (N.length - vs.length) none
noncomputable def cxOf (CX : CXT) (P : Program) (w : World) (K : PySem.W.Frag) (mg : Str -> Option Value) (base : Heap) (N : List Str) (qual : Str) (scope : Scope) (f : Addr) (cd : Value) (A : Around) (outer : List Env) (s : Shared) (H : Hp) (E : XK) : Cx where
 prog := P
 w := w
 K := K
 mg := mg
 base := base
 A := A.deeper (envOfC qual scope s.heap.objs.size f cd)
 N := N
 s₀ := s
 H₀ := H
 env := envOfC qual scope s.heap.objs.size f cd
 outer := outer
 stack := envOfC qual scope s.heap.objs.size f cd :: outer
 ex := []
 calm := true
 fn := fun _ => true
 pn := []
 xe := fun e s' => wpAny (model P w) (A.deeper (envOfC qual scope s.heap.objs.size f cd)) (leaving (envOfC qual scope s.heap.objs.size f cd) e) (fun _ s'' => CX outer H s E e s'') (fun e' s'' => CX outer H s E e' s'') s'
theorem yan {sc : Scope} {n : Nat} {x : Str} (h : sc.names.lookup x = some .cell) : ∃ c, (cellsFrom n sc.names []).lookup x = some c := by
 have q := zhv sc.names n [] (.inl h)
 exact Option.isSome_iff_exists.mp q
theorem yeu {CX : CXT} {P : Program} {w : World} {K : PySem.W.Frag} {mg : Str -> Option Value} {base : Heap} {N ps : List Str} {qual : Str} {scope : Scope} {f : Addr} {cd : Value} {A : Around} {outer : List Env} {s s1 : Shared} {H : Hp} {E : XK} {us : List Value} {vs : List V}
  (S : FnScope N ps scope) (hd : A.handled = none) (e0 : Env0 P w K mg base A outer s H) (hl : vs.length = ps.length) (r : Vals vs us)
  (x : InCallC s s.heap.objs.size (bindL (envOfC qual scope s.heap.objs.size f cd).kindOf (ps.zip us) fun _ => none) (cellsFrom (s.heap.objs.size + 1) scope.names []) (bindC (envOfC qual scope s.heap.objs.size f cd).kindOf (ps.zip us) fun _ => none) s1) :
  Inv (cxOf CX P w K mg base N qual scope f cd A outer s H E) [] (start N vs) H s1 := by
 have hpl : ps.length <= N.length := by have := congrArg List.length S.pre; rw [zeb] at this; omega
 refine x2_2 (x.done) fun h1 tk qz2 hk => ?_; subst qz2
 have noA : ∀ b : Addr, b ∉ (cxOf CX P w K mg base N qual scope f cd A outer s H E).ex := fun b z => absurd (show b ∈ ([] : List Addr) from z) (by simp)
 refine ⟨⟨e0.mod, S.kind, rfl, rfl, zai _, fun y z c h1 h2 => ?_, fun y hy => ?_, fun y c _ h => ?_, fun _ => hd, Around.frames_deeper e0.frames, .inr ⟨rfl, rfl⟩, fun b z => absurd z (noA b), e0.bs, e0.bsz, fun b _ _ => noA b, fun b z => absurd z (noA b), e0.funs, e0.frf⟩,
  rfl, e0.bare, Un.kept hk, ⟨_, x.toInCall.ns, fun i y v h1 h2 h3 => ?_⟩, fun y c h => ⟨_, x.cell y c h⟩, e0.hok.fresh (zai _), fun y c h => ?_, fun p hp => absurd (show p ∈ ([] : List (Addr × Obj)) from hp) (by simp), e0.hok.kept hk, ?_⟩
 ·exact name_of_addr x.apart (zea h1) (zea h2)
 ·have hy : scope.names.lookup y = some .cell ∨ scope.names.lookup y = some .free := hy
  rcases hy with hy | hy
  ·exact yan hy
  ·exact absurd rfl (S.nofree _ (zea hy))
 ·exact zfg (x.above y c (zea h))
 ·have hi : i < vs.length := by
   unfold start at h2
   by_cases hi : i < vs.length
   ·exact hi
   ·rw [zao (by simpa using hi)] at h2
    rw [zcg] at h2
    split at h2 <;> cases h2
  have ha : vs[i]? = some v := by
   unfold start at h2
   rw [zax (by simpa using hi), zak] at h2
   cases e : vs[i]? with
   | none => rw [e] at h2; cases h2
   | some a => rw [e] at h2; cases h2; rfl
  refine x1_2 (r.get ha) fun u hu rv => ?_
  have hp : ps[i]? = some y := by
   rw [<- S.pre, zie (by omega)]; exact h1
  have ndP : ps.Nodup := by rw [<- S.pre]; exact S.nd.sublist (List.take_sublist _ _)
  refine ⟨u, rv, ?_⟩
  rcases S.par y (zar hp) with k | k
  ·exact .inl ⟨k, zxm ndP hp hu k⟩
  ·refine x1_1 (yan (n := s.heap.objs.size + 1) k) fun c e => ?_
   refine .inr ⟨.inl k, c, e, ?_⟩
   have q := x.cell y c e
   rw [zxo ndP hp hu (by show scope.names.lookup y ≠ _; rw [k]; decide)] at q
   exact q
 ·exact e0.hok.fresh (zfg (x.above y c (zea h)))
 ·unfold start
  show _ = N.length
  rw [zap, zad, zbs]
  omega
theorem fn_of {CX : CXT} {P : Program} {w : World} {K : PySem.W.Frag} {mg : Str -> Option Value} {base : Heap} {k : Nat} {f : Addr} {name qual : Str} {params : Arguments} {body : List Stmt} {scope : Scope} {dV kV doc pm cdv ct oc : Value} {an od : Option Addr}
  {osl : Array (Option Value)} {N ps : List Str} {sp : Sp} (lk : K.lookup f = some ⟨oc, od, .func (PySem.W.fnOf name qual params body scope dV kV doc pm an cdv ct), osl⟩) (hcd : PySem.W.codeIn K cdv qual = true) (S : FnScope N ps scope)
  (len : ∀ vs H Q E, sp vs H Q E -> vs.length = ps.length)
  (hbody : ∀ (A : Around) (outer : List Env) (s : Shared) (H : Hp) (vs : List V) (Q : VK) (E : XK), Room k (A.deeper (envOfC qual scope s.heap.objs.size f cdv)) -> sp vs H Q E ->
   ∃ t, PSs (cxOf CX P w K mg base N qual scope f cdv A outer s H E) body t /\ t { nx := fun _ H' => Q .non H', rt := Q } (start N vs) H) :
  FnOk P w K mg base CX (k + 1) f (PySem.W.fnOf name qual params body scope dV kV doc pm an cdv ct) ps sp := by
 refine ⟨len, fun A outer s H args us vs Q E hr e0 hb r hsp => ?_⟩
 have hl := len _ _ _ _ hsp
 have KX : K.In s.heap := e0.mod.kin.keeps fun b o e => (e0.bs b o e).1
 have lim : s.heap.NoLimit := e0.mod.nolimit.keeps fun b o e => (e0.bs b o e).1
 have hkind : ∀ y ∈ ps.zip us, scope.names.lookup y.1 = some .local ∨ (scope.names.lookup y.1 = some .cell /\ ((cellsFrom (s.heap.objs.size + 1) scope.names []).lookup y.1).isSome = true) := fun ⟨n, v⟩ hy => by
  rcases S.par n (zhl hy).1 with q | q
  ·exact .inl q
  ·exact .inr ⟨q, zhv _ _ _ (.inl q)⟩
 refine codeAny_call_function hr.depth (KX _ _ lk) rfl S.co S.gen rfl (PySem.W.codeRec_of KX hcd) (hb _ _ _ _ ?_)
 refine wpAny_newFunctionEnv_cells S.kind hkind fun env he s1 x => ?_
 subst he
 refine ⟨lim.keeps x.toInCall.keep, codeAny_func ?_⟩
 refine x1_2 (hbody A outer s H vs Q E (hr.deeper _) hsp) fun t ht hq => ?_
 have I : Inv (cxOf CX P w K mg base N qual scope f cdv A outer s H E) [] (start N vs) H s1 := yeu S hr.hd e0 hl r x
 refine zfd (ht [] s1 (start N vs) H _ I hq) (fun fl s' hs => ?_) fun e s' hs => hs
 have fin : ∀ {σ' : St} {H' : Hp} {v : V} {u : Value}, Inv (cxOf CX P w K mg base N qual scope f cdv A outer s H E) [] σ' H' s' -> RelV v u -> Q v H' -> CE outer P w H s Q u s' :=
  fun {σ' H' v u} J rv q => ⟨v, H', J.os, J.bare, J.base, J.hok, rv, q⟩
 cases fl with
 | ret u =>
  refine x3_3 hs fun v σ' H' J rv q => ?_; clear hs
  exact fin J rv q
 | next =>
  refine x2_2 hs fun σ' H' J q => ?_; clear hs
  exact fin (v := V.non) (u := Value.none) J rfl q
 | brk =>
  refine x2_2 hs fun _ _ _ q => ?_; clear hs
  exact False.elim q
 | cont =>
  refine x2_2 hs fun _ _ _ q => ?_; clear hs
  exact False.elim q
end L2
namespace L2
open PySem PySem.Spec PyProof.Rows
section
variable {X : Cx} {x : Str} {p pos : Pos} {e : Expr} {es : List Expr} {t : TA} {id T : String} {r : List V -> Hp -> VK -> Prop}
noncomputable def tCB (r : List V -> Hp -> VK -> Prop) (t : TA) : TE := fun σ H Q => t σ H fun vs H1 => r vs H1 Q
theorem zzm (hc : zvm X (.builtin id) r) (hg : Gl X x) (hm : X.mg x = none) (hv : bootBuiltins x = some (.builtin id)) (ha : PA X (e :: es) t) (hn : x ≠ "__name__" := by decide) (hdb : (x == ("__debug__" : Str)) = false := by decide)
  (he : starEach (e :: es) X.env = (false, eval e X.env) :: starEach es X.env := by rfl) (hpl : (backTo pos (starEach es X.env)).any (·.1) = false := by rfl) : PE X (.Call (.Name x p) (e :: es) [] pos) (tCB r t) := by
 intro pins s σ H Q I h
 refine zdf (zoz I hg hm hv ?_ hn hdb)
 exact zgd (thn (ha pos pins s σ H _ I h) fun us s1 hz => x2_3 hz fun vs H1 I1 r1 q1 => hc pins s1 σ H1 vs us Q I1 r1 q1) he hpl
theorem ydy (hc : zvm X (.type T) r) (hg : Gl X x) (hm : X.mg x = none) (hv : bootBuiltins x = some (.type T)) (ha : PA X (e :: es) t) (hn : x ≠ "__name__" := by decide) (hdb : (x == ("__debug__" : Str)) = false := by decide)
  (he : starEach (e :: es) X.env = (false, eval e X.env) :: starEach es X.env := by rfl) (hpl : (backTo pos (starEach es X.env)).any (·.1) = false := by rfl) : PE X (.Call (.Name x p) (e :: es) [] pos) (tCB r t) := by
 intro pins s σ H Q I h
 refine zdf (zoz I hg hm hv ?_ hn hdb)
 exact zce (thn (ha pos pins s σ H _ I h) fun us s1 hz => x2_3 hz fun vs H1 I1 r1 q1 => hc pins s1 σ H1 vs us Q I1 r1 q1) he hpl
end
end L2
namespace HT
open PySem PyProof.Rows
section
open PySem.SeqAt
open PySem.AutoSeq1 (wpAny_loadPart')
open PySem.MeetsSeq PySem.MeetsSeq2 PySem.MeetsSeq3
end
section
variable {prog : Program} {w : World} {A : Around} {E : Value -> Shared -> Prop} {s : Shared}
noncomputable def sIx (n d : Nat) : Option Int -> Nat
 | none => d
 | some v => if v < 0 then (v + (n : Int)).toNat else min v.toNat n
theorem sIx_none (n d : Nat) : sIx n d none = d := rfl
theorem sIx_nat (n d k : Nat) : sIx n d (some (k : Int)) = min k n := by
 show (if (k : Int) < 0 then ((k : Int) + (n : Int)).toNat else min (k : Int).toNat n) = min k n
 rw [if_neg (by omega), zdt]
end
end HT
namespace L2
open PySem PySem.Spec PyProof.Rows
noncomputable abbrev TO := St -> Hp -> (Option Int -> Hp -> Prop) -> Prop
noncomputable def PO (X : Cx) (e : Option Expr) (t : TO) : Prop :=
 ∀ (pins : List (Addr × Obj)) (s : Shared) (σ : St) (H : Hp) (Q : Option Int -> Hp -> Prop), Inv X pins σ H s -> t σ H Q ->
  wpAny (model X.prog X.w) X.A (evalPart e X.env) (fun u s' => ∃ o H', Inv X pins σ H' s' /\ IsPart u o /\ Q o H') X.xe s
noncomputable def ymv : TO := fun _ H Q => Q none H
noncomputable def tPart (t : TE) : TO := fun σ H Q => t σ H fun x H1 => ∃ i, x = .int i /\ Q (some i) H1
section
variable {X : Cx} {e : Expr} {te : TE} {lo hi : Option Expr} {tl th : TO} {pos p2 : Pos}
theorem ynv : PO X none ymv := by
 intro pins s σ H Q I h
 rw [evalPart_none]
 exact zag ⟨none, H, I, .none, h⟩
theorem ynu (h : PE X e te) : PO X (some e) (tPart te) := by
 intro pins s σ H Q I hw
 rw [evalPart_some]
 refine thn (h pins s σ H _ I hw) fun u s1 hz => x2_3 hz fun x H1 I1 r1 q1 => ?_
 refine x1_2 q1 fun i qz1 q => ?_; clear q1; subst qz1
 refine x1_1 r1 fun t qz1 => ?_; clear r1; subst qz1
 exact ⟨some i, H1, I1, .int i t, q⟩
noncomputable def SlR (X : Cx) (r : V -> Option Int -> Option Int -> Hp -> VK -> Prop) : Prop :=
 ∀ (pins : List (Addr × Obj)) (s : Shared) (σ : St) (H : Hp) (x : V) (v vl vu : Value) (lo hi : Option Int) (sl : Addr) (Q : VK), Inv X pins σ H s -> RelV x v -> s.heap.IsSliceOf sl vl vu .none -> IsPart vl lo -> IsPart vu hi -> r x lo hi H Q ->
  ∃ T id, typeLookup (.type T) "__getitem__" = pure (some (.builtin id)) /\ s.TypeIs v T /\ wpAny (model X.prog X.w) X.A (getItem v (.ref sl)) (EP X pins σ Q) X.xe s
noncomputable def tSl (r : V -> Option Int -> Option Int -> Hp -> VK -> Prop) (te : TE) (tl th : TO) : TE := fun σ H Q => te σ H fun x H1 => tl σ H1 fun l H2 => th σ H2 fun u H3 => r x l u H3 Q
theorem yij {r : V -> Option Int -> Option Int -> Hp -> VK -> Prop} (hr : SlR X r) (he : PE X e te) (hl : PO X lo tl) (hu : PO X hi th) : PE X (.Subscript e (.Slice lo hi none p2) pos) (tSl r te tl th) := by
 intro pins s σ H Q I h
 refine Subscript_ (thn (he pins s σ H _ I h) fun v s1 hz => x2_3 hz fun x H1 I1 r1 q1 => ?_)
 refine wpAny_Slice (thn (hl pins s1 σ H1 _ I1 q1) fun vl s2 hz => x2_3 hz fun l H2 I2 pl q2 => thn (hu pins s2 σ H2 _ I2 q2) fun vu s3 hz => x2_3 hz fun u H3 I3 pu q3 => ?_)
 rw [evalPart_none]
 refine zag ?_
 have I4 : Inv X pins σ H3 { s3 with heap := s3.heap.push { cls := .type "slice", data := .fields #[vl, vu, .none] } } := I3.kept (t' := s3.toks) fun b ob q => zaf _ q
 refine x2_3 (hr pins { s3 with heap := s3.heap.push { cls := .type "slice", data := .fields #[vl, vu, .none] } } σ H3 x v vl vu l u s3.heap.objs.size Q I4 r1 (Heap.IsSliceOf.new ..) pl pu q3) fun T id hT ht hg => ?_
 show wpAny (model X.prog X.w) X.A (subscriptTail e (.Slice lo hi none p2) v (.ref s3.heap.objs.size)) (EP X pins σ Q) X.xe { s3 with heap := s3.heap.push { cls := .type "slice", data := .fields #[vl, vu, .none] } }
 exact tail_any (ops := [.ref s3.heap.objs.size, v]) ht hT hg (by with_unfolding_all rfl)
noncomputable def cutV (xs : List V) (lo hi : Option Int) : List V := (xs.drop (HT.sIx xs.length 0 lo)).take (HT.sIx xs.length xs.length hi - HT.sIx xs.length 0 lo)
theorem zyq (xs : List V) (lo hi : Option Int) : (cutV xs lo hi).length <= xs.length := by
 unfold cutV
 rw [zeb, zcz]
 omega
end
end L2
namespace L2
open PySem PySem.Spec PyProof.Rows
noncomputable def ixN (n : Nat) (i : Int) : Option Nat := if 0 <= i then (if i < n then some i.toNat else none) else if -(n : Int) <= i then some (i + n).toNat else none
noncomputable def atI {α : Type} (xs : List α) (i : Int) : Option α := (ixN xs.length i).bind fun j => xs[j]?
theorem yet {n : Nat} {i : Int} {j : Nat} (h : ixN n i = some j) : seqIndex? i n = some j /\ j < n /\ -(n : Int) <= i /\ i < n := by
 unfold ixN at h
 by_cases h0 : 0 <= i
 ·rw [if_pos h0] at h
  by_cases h1 : i < n
  ·rw [if_pos h1] at h
   have e : i.toNat = j := zbk h
   exact ⟨by rw [seqIndex_of h0 h1, e], by omega, by omega, h1⟩
  ·rw [if_neg h1] at h; cases h
 ·rw [if_neg h0] at h
  by_cases h1 : -(n : Int) <= i
  ·rw [if_pos h1] at h
   have e : (i + n).toNat = j := zbk h
   exact ⟨by rw [zjx (by omega) h1, e], by omega, h1, by omega⟩
  ·rw [if_neg h1] at h; cases h
theorem ygn {α : Type} {xs : List α} {i : Int} {v : α} (h : atI xs i = some v) : ∃ j, seqIndex? i xs.length = some j /\ xs[j]? = some v /\ j < xs.length /\ -(xs.length : Int) <= i /\ i < xs.length := by
 unfold atI at h
 cases e : ixN xs.length i with
 | none => rw [e] at h; cases h
 | some j =>
  rw [e] at h
  refine x0_4 (yet e) fun h1 h2 h3 h4 => ?_
  exact ⟨j, h1, h, h2, h3, h4⟩
theorem atI_nat {α : Type} {xs : List α} {j : Nat} {v : α} (h : xs[j]? = some v) : atI xs (j : Int) = some v := by
 have hj : j < xs.length := (zal.mp h).1
 have e : ixN xs.length (j : Int) = some j := by
  unfold ixN
  rw [if_pos (by omega), if_pos (by omega)]; simp
 unfold atI; rw [e]; exact h
noncomputable def ygw (b : Expr) : Prop := ∀ o i, subscripted b false o i = operate [o, i] (getItem o i)
noncomputable def IxR (X : Cx) (r : R2) : Prop :=
 ∀ (value slice : Expr) (pins : List (Addr × Obj)) (s : Shared) (σ : St) (H : Hp) (x y : V) (v u : Value) (Q : VK), Inv X pins σ H s -> RelV x v -> RelV y u -> r x y H Q ->
  subscripted slice false v u = operate [v, u] (getItem v u) -> wpAny (model X.prog X.w) X.A (subscriptTail value slice v u) (EP X pins σ Q) X.xe s
noncomputable def MtR (X : Cx) (id : String) (r : V -> List V -> Hp -> VK -> Prop) : Prop :=
 ∀ (pins : List (Addr × Obj)) (s : Shared) (σ : St) (H : Hp) (x : V) (xs : List V) (v : Value) (us : List Value) (Q : VK), Inv X pins σ H s -> RelV x v -> Vals xs us -> r x xs H Q ->
  wpAny (model X.prog X.w) X.A (call (.builtin id) (v :: us)) (EP X pins σ Q) X.xe s
section
variable {X : Cx} {a b : Expr} {ta tb : TE} {pos : Pos}
theorem pe_ix {r : R2} (hr : IxR X r) (ha : PE X a ta) (hb : PE X b tb) (hs : ygw b) : PE X (.Subscript a b pos) (tOp r ta tb) := by
 intro pins s σ H Q I h
 exact Subscript_ (binT ha hb I h fun v u s2 x y H2 I2 rx ry q => hr a b pins s2 σ H2 x y v u Q I2 rx ry q (hs _ _))
noncomputable def rIxL (K : PySem.W.Frag) : R2 := fun x y H Q => ∃ p xs i v, x = .ref p /\ y = .int i /\ SqL K H p xs /\ atI xs i = some v /\ Q v H
noncomputable def rIxT (K : PySem.W.Frag) : R2 := fun x y H Q => ∃ p xs i v, x = .ref p /\ y = .int i /\ SqT K H p xs /\ atI xs i = some v /\ Q v H
theorem ypa : IxR X (rIxL X.K) := by
 intro value slice pins s σ H x y v u Q I rx ry h hs
 refine x4_5 h fun p xs i z qz4 qz5 hq he q => ?_; clear h; subst qz4; subst qz5
 cases rx
 refine x1_1 ry fun t qz1 => ?_; clear ry; subst qz1
 refine x1_3 (I.list hq) fun its r pl hz => ?_
 refine x1_5 (ygn he) fun j h1 h2 h3 h4 h5 => ?_
 refine x1_2 (r.get h2) fun w ew rw' => ?_
 have hl := r.length
 have hn := zzw
 have fin : EP X pins σ Q w s := ⟨z, H, I, rw', q⟩
 by_cases h0 : 0 <= i
 ·have hj : i.toNat = j := by
   rw [seqIndex_of h0 h5] at h1
   exact zbk h1
  exact item_listR pl.isList h0 (by omega) (by rw [hj]; simpa using ew) fin hs
 ·have hj : (i + (its.toArray.size : Int)).toNat = j := by
   rw [zjx (by omega) h4] at h1
   rw [zau, <- hl]
   exact zbk h1
  exact zjm (x := w) pl.isList.typeIs slot_list_getitem.lookup
   (wpAny_getItem_list_neg (Q := fun r s' => r = w /\ EP X pins σ Q r s') pl.isList (by omega) (by rw [zau] <;> omega) (by omega) (by rw [hj]; simpa using ew) ⟨rfl, fin⟩) hs
theorem ix_tup : IxR X (rIxT X.K) := by
 intro value slice pins s σ H x y v u Q I rx ry h hs
 refine x4_5 h fun p xs i z qz4 qz5 hq he q => ?_; clear h; subst qz4; subst qz5
 cases rx
 refine x1_1 ry fun t qz1 => ?_; clear ry; subst qz1
 refine x1_3 (I.tuple hq) fun its r pl hz => ?_
 refine x1_5 (ygn he) fun j h1 h2 h3 h4 h5 => ?_
 refine x1_2 (r.get h2) fun w ew rw' => ?_
 have hl := r.length
 have hn := zzw
 have fin : EP X pins σ Q w s := ⟨z, H, I, rw', q⟩
 exact zjm (x := w) pl.typeIs slot_tuple_getitem.lookup
  (getItem_tuple (j := j) (Q := fun r s' => r = w /\ EP X pins σ Q r s') pl (by omega) (by omega) (by rw [zau, <- hl]; exact h1) (by simpa using ew) ⟨rfl, fin⟩) hs
theorem ybn (its : List Value) (n j : Nat) (u : Value) : Obj.mapSeq (·.setIfInBounds j u) { cls := .type "list", data := .seq its.toArray n } = { cls := .type "list", data := .seq (its.set j u).toArray n } := by
 simp [Obj.mapSeq]
theorem Inv.lst {pins : List (Addr × Obj)} {σ : St} {H : Hp} {s : Shared} {p : Addr} {xs : List V} (I : Inv X pins σ H s) (h : H p = some (.lst xs)) :
  ∃ (its : List Value) (n : Nat), Vals xs its /\ s.heap.get? p = some { cls := .type "list", data := .seq its.toArray n } /\ xs.length <= sizeLine := by
 refine xaeeaa (I.hok p _ h) fun z its n r e => ?_
 exact ⟨its, n, r, e, z⟩
theorem Inv.lstUpd {pins : List (Addr × Obj)} {σ : St} {H : Hp} {s : Shared} {p : Addr} {xs ys : List V} {its its' : List Value} {n n' : Nat} {f : Obj -> Obj} (I : Inv X pins σ H s) (h : H p = some (.lst xs))
  (ho : s.heap.get? p = some { cls := .type "list", data := .seq its.toArray n }) (hf : f { cls := .type "list", data := .seq its.toArray n } = { cls := .type "list", data := .seq its'.toArray n' }) (r : Vals ys its') (hz : ys.length <= sizeLine) (t : Nat) :
  Inv X pins σ (upd H p (.lst ys)) { s with heap := s.heap.update p f, toks := t } := by
 have e : (s.heap.update p f).get? p = some { cls := .type "list", data := .seq its'.toArray n' } := by
  rw [zco f ho (by rw [hf] <;> rfl), hf]
 refine I.write (x := p) (e := p) (by rw [h]; trivial) (.inl rfl) (fun b u hb q => (zdn _ _ (zda hb)).trans q) ⟨_, e⟩ ?_
 exact ⟨hz, its', n', r, e⟩
noncomputable def rSetL : V -> V -> V -> Hp -> (Hp -> Prop) -> Prop := fun o i v H Q => ∃ p xs k j, o = .ref p /\ i = .int k /\ H p = some (.lst xs) /\ ixN xs.length k = some j /\ Q (upd H p (.lst (xs.set j v)))
theorem yht : PSet X rSetL := by
 intro pins s σ H o i v ov iv u Q I ro ri rv h
 refine x4_5 h fun p xs k j qz4 qz5 hp hj q => ?_; clear h; subst qz4; subst qz5
 cases ro
 refine x1_1 ri fun t qz1 => ?_; clear ri; subst qz1
 refine x2_3 (I.lst hp) fun its n r ho hz => ?_
 refine x0_4 (yet hj) fun h1 h2 h3 h4 => ?_
 have hl := r.length
 have hn := zzw
 have I' : Inv X pins σ (upd H p (.lst (xs.set j v))) { s with heap := s.heap.update p (Obj.mapSeq (·.setIfInBounds j u)) } :=
  I.lstUpd hp ho (ybn its n j u) (r.set rv j) (by rw [zcd]; exact hz) s.toks
 by_cases h0 : 0 <= k
 ·have hk : k.toNat = j := by
   rw [seqIndex_of h0 h4] at h1
   exact zbk h1
  exact PySem.W.ki_setAt ho h0 (by omega) (by rw [zau, <- hl]; exact h4) (by rw [hk]; exact ⟨_, I', q⟩)
 ·have hk : (k + (its.toArray.size : Int)).toNat = j := by
   rw [zjx (by omega) h3] at h1
   rw [zau, <- hl]
   exact zbk h1
  exact PySem.W.ki_setBack ho (by omega) (by rw [zau, <- hl]; exact h3) (by omega) (by rw [hk]; exact ⟨_, I', q⟩)
theorem sb_lo (i : Int) (n : Nat) : (sliceBounds (some i) none none n).1 = ((HT.sIx n 0 (some i) : Nat) : Int) := by
 simp only [sliceBounds, HT.sIx, Option.getD_none, show (1 : Int) > 0 by decide, if_true]
 by_cases h : i < 0
 ·simp only [h, if_true] <;> omega
 ·simp only [h, if_false] <;> omega
theorem zwc (lo hi : Option Int) (n : Nat) : (sliceBounds lo hi none n).1 = ((HT.sIx n 0 lo : Nat) : Int) /\ (sliceBounds lo hi none n).2.1 = ((HT.sIx n n hi : Nat) : Int) /\ (sliceBounds lo hi none n).2.2 = 1 := by
 refine ⟨?_, ?_, rfl⟩
 ·cases lo with
  | none => simp [sliceBounds, HT.sIx]
  | some i => exact sb_lo i n
 ·cases hi with
  | none => simp [sliceBounds, HT.sIx]
  | some i => exact sb_lo i n
theorem zuf (its : List Value) (lo hi : Option Int) : slicePick its.toArray lo hi none = ((its.drop (HT.sIx its.length 0 lo)).take (HT.sIx its.length its.length hi - HT.sIx its.length 0 lo)).toArray := by
 refine x0_3 (zwc lo hi its.toArray.size) fun h1 h2 h3 => ?_
 unfold slicePick
 rw [h1, h2, h3]
 simp only [sliceRange_one, pick_run, zau] <;> rfl
noncomputable def rSlL (K : PySem.W.Frag) : V -> Option Int -> Option Int -> Hp -> VK -> Prop := fun x lo hi H Q => ∃ a xs, x = .ref a /\ SqL K H a xs /\ ∀ p, H p = none -> Q (.ref p) (upd H p (.lst (cutV xs lo hi)))
theorem yna : SlR X (rSlL X.K) := by
 intro pins s σ H x v vl vu lo hi sl Q I rx hs pl pu h
 refine x2_3 h fun a xs qz2 hx q => ?_; clear h; subst qz2
 cases rx
 refine x1_3 (I.list hx) fun its r ht hz => ?_
 have hlen := r.length
 refine ⟨"list", _, slot_list_getitem.lookup, ht.isList.typeIs, ?_⟩
 refine wpAny_getItem_list_slice ht.isList hs pl pu .none (by simp) ?_ (by rw [zau] <;> omega)
 rw [zuf, <- hlen]
 refine ⟨.ref s.heap.objs.size, _, I.laid (t' := s.toks) (o := .lst (cutV xs lo hi)) (fun b ob q => zaf _ q) (zai _) ?_, rfl, q _ (I.hok.fresh (zai _))⟩
 exact ⟨zcb (zyq xs lo hi) hz, _, 0, (r.drop (HT.sIx xs.length 0 lo)).take (HT.sIx xs.length xs.length hi - HT.sIx xs.length 0 lo), zbe _ rfl⟩
theorem zqf : zvm X (.builtin "len") (fun xs H Q => ∃ p ys, xs = [.ref p] /\ (SqL X.K H p ys ∨ SqT X.K H p ys) /\ Q (.int ys.length) H) := by
 intro pins s σ H xs us Q I r h
 refine x2_3 h fun p ys qz2 hq q => ?_; clear h; subst qz2
 refine x1_2 (yat r) fun u qz1 rx => ?_; subst qz1
 cases rx
 have hn := zzw
 rcases hq with hq | hq
 ·refine x1_3 (I.list hq) fun its r' pl hz => ?_
  have hlen := r'.length
  exact Calls.call_len_list pl.isList (by simp only [zau] <;> omega) ⟨.int ys.length, H, I.tok _, ⟨s.toks + 1, by rw [zau, hlen]⟩, q⟩
 ·refine x1_3 (I.tuple hq) fun its r' pl hz => ?_
  have hlen := r'.length
  exact len_tuple pl (by simp only [zau] <;> omega) ⟨.int ys.length, H, I.tok _, ⟨s.toks + 1, by rw [zau, hlen]⟩, q⟩
theorem zqe : zvm X (.type "list") (fun xs H Q => ∃ p ys, xs = [.ref p] /\ (SqL X.K H p ys ∨ SqT X.K H p ys) /\ ∀ l, H l = none -> Q (.ref l) (upd H l (.lst ys))) := by
 intro pins s σ H xs us Q I r h
 refine x2_3 h fun p ys qz2 hq q => ?_; clear h; subst qz2
 refine x1_2 (yat r) fun u qz1 rx => ?_; subst qz1
 cases rx
 have fin : ∀ (its : List Value), Vals ys its -> ys.length <= sizeLine -> ∀ (h' : Heap) (c' : Nat), (∀ b o', s.heap.get? b = some o' -> h'.get? b = some o') ->
   h'.get? s.heap.objs.size = some { cls := .type "list", dict := none, data := .seq its.toArray c', slots := #[] } -> EP X pins σ Q (.ref s.heap.objs.size) { s with heap := h' } := fun its r' hz h' c' kp e =>
  ⟨.ref s.heap.objs.size, _, I.laid (t' := s.toks) kp (zai _) (show ObjOk X.prog X.w _ h' _ (.lst ys) from ⟨hz, its, c', r', e⟩), rfl, q _ (I.hok.fresh (zai _))⟩
 rcases hq with hq | hq
 ·refine x1_3 (I.list hq) fun its r' pl hz => ?_
  have hlen := r'.length
  refine xeaaea (pl.isList) fun o ho hc n hd => ?_
  exact call_list_seq p (.inl rfl) ho hc hd (fun h' c' kp e => fin its r' hz h' c' kp e) (by simp only [zau] <;> omega)
 ·refine x1_3 (I.tuple hq) fun its r' pl hz => ?_
  have hlen := r'.length
  refine xeaaea pl fun o ho hc n hd => ?_; clear pl
  exact call_list_seq p (.inr rfl) ho hc hd (fun h' c' kp e => fin its r' hz h' c' kp e) (by simp only [zau] <;> omega)
noncomputable def tyV (K : PySem.W.Frag) (T : String) (x : V) (H : Hp) : Prop := match x with
 | .str _ => T = "str"
 | .int _ => T = "int"
 | .ref p => (T = "list" /\ ∃ xs, SqL K H p xs) ∨ (T = "tuple" /\ ∃ o, K.lookup p = some o /\ o.cls = .type "tuple" /\ o.dict = none) ∨
   (T = "dict" /\ ((∃ kvs, H p = some (.dK kvs)) ∨ ∃ kvs, H p = some (.dT kvs))) ∨ (T = "set" /\ ∃ S n, H p = some (.set S n))
 | _ => False
theorem ykx {pins : List (Addr × Obj)} {σ : St} {H : Hp} {s : Shared} {T : String} {x : V} {v : Value} (I : Inv X pins σ H s) (r : RelV x v) (ty : tyV X.K T x H) :
  s.TypeIs v T /\ ∀ a, v = .ref a -> ∃ ob, s.heap.get? a = some ob /\ ob.dict = none := by
 cases x with
 | str z =>
  refine x1_1 r fun t qz1 => ?_; clear r; subst qz1
  cases (show T = "str" from ty)
  exact ⟨typeIs_str s z t, fun _ e => nomatch e⟩
 | int i =>
  refine x1_1 r fun t qz1 => ?_; clear r; subst qz1
  cases (show T = "int" from ty)
  exact ⟨typeIs_int s i t, fun _ e => nomatch e⟩
 | ref p =>
  cases r
  rcases ty with ⟨rfl, xs, hq⟩ | ⟨rfl, o, hk, hc, hd⟩ | ⟨rfl, hk⟩ | ⟨rfl, S, n, hk⟩
  ·refine x1_3 (I.list hq) fun its _ pl _ => ?_
   refine ⟨pl.isList.typeIs, fun a e => ?_⟩
   cases e
   refine x2_4 pl fun o n e c hd _ => ?_; clear pl
   exact ⟨o, e, hd⟩
  ·refine ⟨⟨o, I.kIn p o hk, hc⟩, fun a e => ?_⟩
   cases e
   exact ⟨o, I.kIn _ o hk, hd⟩
  ·have z : ∃ o, s.heap.get? p = some o /\ o.ExactDict := by
    rcases hk with ⟨kvs, hk⟩ | ⟨kvs, hk⟩
    ·obtain ⟨_, _, _, _, o, _, _, e, ex, _⟩ := I.hok p _ hk
     exact ⟨o, e, ex⟩
    ·obtain ⟨_, _, _, _, o, _, _, e, ex, _⟩ := I.hok p _ hk
     exact ⟨o, e, ex⟩
   refine x1_2 z fun o e ex => ?_; clear z
   refine ⟨⟨o, e, ex.1⟩, fun a e2 => ?_⟩
   cases e2
   exact ⟨o, e, ex.2.1⟩
  ·refine x4_3 (I.hok p _ hk) fun o _ _ _ e ex _ => ?_
   refine ⟨⟨o, e, ex.1⟩, fun a e2 => ?_⟩
   cases e2
   exact ⟨o, e, ex.2.1⟩
 | _ => exact False.elim ty
noncomputable def tBM0 (K : PySem.W.Frag) (T : String) (r : V -> List V -> Hp -> VK -> Prop) (to : TE) : TE := fun σ H Q => to σ H fun x H1 => tyV K T x H1 /\ r x [] H1 Q
noncomputable def tBM (K : PySem.W.Frag) (T : String) (r : V -> List V -> Hp -> VK -> Prop) (to : TE) (t : TA) : TE := fun σ H Q => to σ H fun x H1 => tyV K T x H1 /\ t σ H1 fun xs H2 => r x xs H2 Q
variable {o e : Expr} {es : List Expr} {to : TE} {t : TA} {name : Str} {apos cpos : Pos} {T id : String} {r : V -> List V -> Hp -> VK -> Prop}
theorem ylj (pa : PlainAttrs T) (slot : Slot T name id) (hty : typeOf (.builtin id) = pure (.type "method_descriptor")) (hm : MtR X id r) (ho : PE X o to)
  (hbase : attributeBase o name X.env (eval o X.env) = eval o X.env := by rfl) (hline : (apos.endLine == cpos.line) = true := by rfl) : PE X (.Call (.Attribute o name apos) [] [] cpos) (tBM0 X.K T r to) := by
 intro pins s σ H Q I h
 refine wpAny_Call_method0_late hbase hline (thn (ho pins s σ H _ I h) fun v s1 hz => x2_4 hz fun x H1 I1 r1 ty q1 => ?_)
 refine x0_2 (ykx I1 r1 ty) fun h1 h2 => ?_
 exact ⟨T, id, pa, slot, hty, h1, h2, zii rfl (PySem.evalArgs_none (hm pins s1 σ H1 x [] v [] Q I1 r1 .nil q1))⟩
theorem pe_bm (pa : PlainAttrs T) (slot : Slot T name id) (hty : typeOf (.builtin id) = pure (.type "method_descriptor")) (hm : MtR X id r) (ho : PE X o to) (ha : PA X (e :: es) t)
  (hbase : attributeBase o name X.env (eval o X.env) = eval o X.env := by rfl)
  (hfew : ((backTo cpos (starEach (e :: es) X.env)).all (fun x => !x.1) && (backToKw cpos (keywordEach [] X.env)).all (fun x => x.1.isSome)
   && decide ((e :: es).length + ([] : List Keyword).length + (if ([] : List Keyword).isEmpty then 0 else 1) < 30)) = true := by rfl)
  (hline : (apos.endLine == cpos.line) = true := by rfl) (hs : starEach (e :: es) X.env = (false, eval e X.env) :: starEach es X.env := by rfl) (hplain : (backTo cpos (starEach es X.env)).any (·.1) = false := by rfl) :
  PE X (.Call (.Attribute o name apos) (e :: es) [] cpos) (tBM X.K T r to t) := by
 intro pins s σ H Q I h
 refine wpAny_Call_method_late hbase hfew hline rfl (thn (ho pins s σ H _ I h) fun v s1 hz => x2_4 hz fun x H1 I1 r1 ty q1 => ?_)
 refine x0_2 (ykx I1 r1 ty) fun h1 h2 => ?_
 refine ⟨T, id, pa, slot, hty, h1, h2, ?_⟩
 have hA := ha cpos pins s1 σ H1 _ I1 q1
 rw [hs] at hA ⊢
 refine zii (by show (false || (backTo cpos (starEach es X.env)).any (·.1)) = false; rw [hplain] <;> rfl) (Calls.evalArgs_plain ?_)
 exact thn hA fun us s2 hz => x2_3 hz fun vs H2 I2 r2 q2 => hm pins s2 σ H2 x vs v us Q I2 r1 r2 q2
end
end L2
namespace L2
open PySem PySem.Spec PyProof.Rows
noncomputable def MtM (X : Cx) (id : String) (r : V -> List V -> Hp -> VK -> Prop) : Prop :=
 ∀ (pins : List (Addr × Obj)) (s : Shared) (σ : St) (H : Hp) (x : V) (xs : List V) (v : Value) (us : List Value) (Q : VK), Inv X pins σ H s -> RelV x v -> Vals xs us -> r x xs H Q ->
  wpAny (model X.prog X.w) X.A (call (.builtin id) (v :: us)) (EP X pins σ Q) X.xe s
theorem Vals.one {x : V} {us : List Value} (r : Vals [x] us) : ∃ u, us = [u] /\ RelV x u := yat r
theorem Vals.zero : ∀ {us : List Value}, Vals [] us -> us = []
 | _, .nil => rfl
theorem Vals.dropLast {xs : List V} {us : List Value} (h : Vals xs us) : Vals xs.dropLast us.dropLast := by
 induction h with
 | nil => exact .nil
 | cons r t ih =>
  cases t with
  | nil => exact .nil
  | cons q t' => exact .cons r ih
theorem Vals.reverse {xs : List V} {us : List Value} (h : Vals xs us) : Vals xs.reverse us.reverse := by
 induction h with
 | nil => exact .nil
 | cons r t ih => rw [zbz, zbz]; exact Vals.append ih (.cons r .nil)
theorem ybx {α : Type} (l : List α) : l.eraseIdx (l.length - 1) = l.dropLast := by
 induction l with
 | nil => rfl
 | cons a r ih =>
  cases r with
  | nil => rfl
  | cons b r =>
   have e : (a :: b :: r).length - 1 = ((b :: r).length - 1) + 1 := by
    have h1 : (a :: b :: r).length = r.length + 2 := rfl
    have h2 : (b :: r).length = r.length + 1 := rfl
    omega
   rw [e, zih, ih]
   all_goals rfl
section
variable {X : Cx} {pins : List (Addr × Obj)} {σ : St} {H : Hp} {s : Shared} {l b : Addr} {xs ys zs : List V}
theorem Inv.lset {its its' : List Value} {n : Nat} {f : Array Value -> Array Value} {t' : Nat} (I : Inv X pins σ H s) (hH : H l = some (.lst xs))
  (e : s.heap.get? l = some { cls := .type "list", data := .seq its.toArray n }) (hf : f its.toArray = its'.toArray) (hv : Vals ys its') (hz : ys.length <= sizeLine) :
  Inv X pins σ (upd H l (.lst ys)) { s with heap := s.heap.update l (Obj.mapSeq f), toks := t' } := by
 have q := PySem.IsL.update e f
 rw [hf] at q
 refine I.write (x := l) (e := l) (by rw [hH]; exact trivial) (.inl rfl) (fun b' u hb hu => (zdn s.heap (Obj.mapSeq f) (zda hb)).trans hu) ⟨_, q⟩ ?_
 exact ⟨hz, its', _, hv, q⟩
theorem Inv.lnew {its : List Value} {t' : Nat} (I : Inv X pins σ H s) (hv : Vals ys its) (hz : ys.length <= sizeLine) :
  Inv X pins σ (upd H s.heap.objs.size (.lst ys)) { s with heap := s.heap.push { cls := .type "list", data := .seq its.toArray }, toks := t' } :=
 I.laid (fun _ _ q => zaf _ q) (zai _) ⟨hz, its, 0, hv, zbe _ rfl⟩
theorem Inv.fresh (I : Inv X pins σ H s) : H s.heap.objs.size = none := I.hok.fresh (zai _)
theorem Inv.lstM (I : Inv X pins σ H s) (hH : H l = some (.lst xs)) : xs.length <= sizeLine /\ ∃ (its : List Value) (n : Nat), Vals xs its /\ xs.length = its.length /\ s.heap.get? l = some { cls := .type "list", data := .seq its.toArray n } := by
 refine xaeeaa (I.hok l _ hH) fun z its n r e => ?_
 exact ⟨z, its, n, r, r.length, e⟩
end
section
variable {X : Cx}
noncomputable def yno : V -> List V -> Hp -> VK -> Prop := fun x vs H Q => ∃ l xs y, x = .ref l /\ vs = [y] /\ H l = some (.lst xs) /\ xs.length < sizeLine /\ Q .non (upd H l (.lst (xs ++ [y])))
theorem zwt : MtM X "list.append" yno := by
 intro pins s σ H x vs v us Q I rx rv h
 refine x3_5 h fun l xs y qz3 qz4 hH hz q => ?_; clear h; subst qz3; subst qz4
 cases rx
 refine x1_2 (rv.one) fun u qz1 ru => ?_; subst qz1
 refine xaeeaaa (I.lstM hH) fun z its n r hl e => ?_
 refine call_meets F.slot_list_append ⟨_, e, rfl⟩ F.entry_list_append (F.args_list_append_2 _ _) (PySem.list_append l its.toArray n u (by rw [zau]; omega)) ⟨e, ?_⟩
 refine ⟨.non, _, I.lset (its' := its ++ [u]) hH e (by simp) (r.append (.cons ru .nil)) ?_, rfl, q⟩
 rw [zap, zio]
 omega
noncomputable def rPop : V -> List V -> Hp -> VK -> Prop := fun x vs H Q => ∃ l xs y, x = .ref l /\ vs = [] /\ H l = some (.lst xs) /\ xs[xs.length - 1]? = some y /\ Q y (upd H l (.lst xs.dropLast))
theorem mt_pop : MtM X "list.pop" rPop := by
 intro pins s σ H x vs v us Q I rx rv h
 refine x3_5 h fun l xs y qz3 qz4 hH hy q => ?_; clear h; subst qz3; subst qz4
 cases rx
 have hus := rv.zero
 subst hus
 refine xaeeaaa (I.lstM hH) fun z its n r hl e => ?_
 refine x1_2 (r.get hy) fun u hu ru => ?_
 have hy' : its.toArray[its.toArray.size - 1]? = some u := by
  show its.toArray[its.length - 1]? = some u
  rw [<- zas, <- hl]
  exact hu
 refine call_meets F.slot_list_pop ⟨_, e, rfl⟩ F.entry_list_pop (F.args_list_pop_1 _) (MeetsSeq.list_pop_last l its.toArray n u hy' (by rw [zau]; omega)) ⟨e, ?_⟩
 refine ⟨y, _, I.lset (its' := its.dropLast) hH e ?_ r.dropLast ?_, ru, q⟩
 ·show its.toArray.eraseIdxIfInBounds (its.toArray.size - 1) = its.dropLast.toArray
  rw [zau, List.eraseIdxIfInBounds_toArray, ybx]
 ·rw [zcs]
  omega
noncomputable def rClear : V -> List V -> Hp -> VK -> Prop := fun x vs H Q => ∃ l xs, x = .ref l /\ vs = [] /\ H l = some (.lst xs) /\ Q .non (upd H l (.lst []))
theorem yis : MtM X "list.clear" rClear := by
 intro pins s σ H x vs v us Q I rx rv h
 refine x2_4 h fun l xs qz2 qz3 hH q => ?_; clear h; subst qz2; subst qz3
 cases rx
 have hus := rv.zero
 subst hus
 refine xaeeaaa (I.lstM hH) fun z its n r hl e => ?_
 refine call_meets F.slot_list_clear ⟨_, e, rfl⟩ F.entry_list_clear (F.args_list_clear_1 _) (AutoSeq1.list_clear_list_0 l its.toArray n (by rw [zau]; omega)) ⟨e, ?_⟩
 exact ⟨.non, _, I.lset (its' := []) (ys := []) hH e rfl .nil (zbr _), rfl, q⟩
end
section
variable {prog : Program} {w : World} {A : Around} {E : Value -> Shared -> Prop} {s : Shared}
end
section
variable {X : Cx}
end
end L2
namespace Att
open PySem PySem.W PySem.Calls PyProof.Rows
theorem zsi {P : Params} {h : Heap} : ∀ (ns : List Int) (vs : List Value), WellAll P h vs (ns.map WData.int) -> IntsAre vs ns := by
 intro ns
 induction ns with
 | nil =>
  intro vs w
  rw [zdb] at w
  cases w
  exact .nil
 | cons n ns ih =>
  intro vs w
  rw [zba] at w
  cases w with
  | cons a b =>
   cases a
   exact .cons _ _ (ih _ b)
theorem ydh {l : OpenLaw} {n : Nat} (hn : l.most = some n) {P : Params} {h : Heap} {args : List WData} {vals : List Value}
  (hpre : l.row.toRowW.claim.pre args = true) (hwl : WellAll P h vals args) :
  ∃ a vs ns, vals = [Value.ref a] /\ args = [WData.list (ns.map WData.int)] /\ h.get? a = some { cls := .type "list", data := .seq vs.toArray } /\ IntsAre vs ns /\ ns.length <= n := by
 have hsh : WShape.hasAll [] args [.list .int] = true := (pre_splitW hpre).1
 have hc : l.pre.holds [] { args := args } = true := (pre_splitW hpre).2
 refine x2_3 (hasAllW_cons hsh) fun d r qz2 h1 h2 => ?_; subst qz2
 obtain rfl := hasAllW_nil h2
 refine x1_2 (hasW_list h1) fun xs qz1 h3 => ?_; subst qz1
 refine x1_1 (items_int h3) fun ns qz1 => ?_; subst qz1
 have hlen : ns.length <= n := by
  unfold OpenLaw.pre at hc
  have h4 : (WTm.not (.lt (.lit (.int (n : Int))) (.len (.arg 0)))).holds [] { args := [.list (ns.map .int)] } = true := by
   have h4 := (holds_andW hc).1
   rw [hn] at h4
   exact h4
  have h5 := condW_of h4 (w_not (w_lt w_lit (w_len_list (w_arg rfl))))
  rw [zad] at h5
  refine Nat.le_of_not_lt fun q => ?_
  have q' : (n : Int) < ((ns.length : Nat) : Int) := by omega
  first
   | (rw [decide_eq_true q'] at h5; exact absurd h5 (by decide))
   | (simp at h5; omega)
 cases hwl with
 | cons w1 w2 =>
  cases w2
  cases w1 with
  | list ho hall => exact ⟨_, _, ns, rfl, rfl, ho, zsi ns _ hall, hlen⟩
theorem ydq (l : OpenLaw) (args : List WData) : l.row.toRowW.claim.post args (.bool true) args = true :=
 postW_of (r := l.row.toRowW) (X := (true == true))
  (show WShape.has [] (.bool true) .bool = true by first | rfl | decide | simp [WShape.has, WShape.arms, WShape.armsAll])
  (show (WTm.eq .res (.lit (.bool true))).value [] { args := args, res := some (.bool true), after := args } = some (.bool (true == true)) from w_eq_bool (w_res rfl) w_lit) rfl
theorem attach_call {l : OpenLaw} {n : Nat} {q : Program} {loose : List Str} {XP : (Str -> Option Value) -> Heap -> Prop} {YP : World -> Heap -> Prop} {d : DefRec}
  (hn : l.most = some n) (hdf : d.params.defaults = [])
  (call : ∀ (w : World) (s₀ s₁ : Shared) (mg mb : Str -> Option Value) (fa : Addr) (o : Obj) (pm cd doc : Value) (a : Addr) (vs : List Value) (ns : List Int),
   Ground q loose [] XP w s₀ mg mb s₁.heap -> YP w s₁.heap ->
   s₁.heap.get? fa = some o -> o.data = .func (docDef d.name d.params d.body d.scope pm cd doc) -> s₁.heap.CodeRec cd d.name -> mg d.name = some (.ref fa) ->
   s₁.heap.get? a = some { cls := .type "list", data := .seq vs.toArray } -> IntsAre vs ns -> ns.length <= n -> s₁.gens = #[] ->
   codeAny (model l.prog w) callerA (.call (.ref fa) ⟨[.ref a], []⟩) (fun r s' => r = .ok (.ret (.bool true)) /\ OldK s₁.heap s'.heap /\ s'.os = s₁.os /\ AllBare s'.gens) s₁) :
  WalkO q loose XP YP l.row.toRowW d [] (fun f vs => PySem.call f vs) := by
 intro w s₀ s₁ mg mb G Y fa o pm cd doc dV kV ho hd hcd hD hmg hg args vals as hpre hlay hrd hwl hlo
 obtain rfl : dV = .none := Dflts.none hD hdf
 obtain rfl : kV = .none := Dflts.noKw hD
 refine x3_5 (ydh hn hpre hwl) fun a vs ns qz3 qz4 hobj hints hlen => ?_; subst qz3; subst qz4
 refine enter_call (zgm (call w s₀ s₁ mg mb fa o pm cd doc a vs ns G Y ho (fd_plain hd) hcd hmg hobj hints hlen hg) fun r s' hq => ?_)
 refine x0_4 hq fun qz0 h2 h3 h4 => ?_; clear hq; subst qz0
 exact ⟨.inl ⟨.bool true, .bool true, [], rfl, fun _ => rfl, .bool true, ydq l _, fun _ => ⟨List.Pairwise.nil, fun _ hm => (nomatch hm)⟩⟩, h2, h3, h4⟩
section
variable {prog : Program} {w : World} {A : Around} {E : Value -> Shared -> Prop} {s : Shared} {K : Frag}
end
end Att
namespace L2
open PySem PySem.Spec PyProof.Rows
theorem zvp : ∀ {vs : List Value} {ns : List Int}, IntsAre vs ns -> Vals (ns.map V.int) vs
 | _, _, .nil => .nil
 | _, _, .cons n t h => .cons ⟨t, rfl⟩ (zvp h)
noncomputable def Only (H : Hp) : Prop := ∀ b, H b = none ∨ ∃ o xs, H b = some (.frz o (.lst xs))
theorem yjc {P : Program} {w : World} {K : PySem.W.Frag} {mg mb : Str -> Option Value} {CX : CXT} {k : Nat} {fa a : Addr} {fd : FuncData} {x : Str} {sp : Sp} {s₁ : Shared} {vs : List Value} {ns : List Int}
  (KX : K.In s₁.heap) (hns : s₁.heap.Ns mainGlobals mg) (hb : s₁.heap.Ns builtinsNs mb) (hbb : ∀ x : Str, x ≠ "__name__" -> mb x = bootBuiltins x) (hlim : s₁.heap.NoLimit) (hg : s₁.gens = #[])
  (ha : s₁.heap.get? a = some { cls := .type "list", data := .seq vs.toArray }) (hi : IntsAre vs ns) (hl : ns.length <= sizeLine) (hr : Room k callerA)
  (F : ∀ base : Heap, K.In base -> base.Ns mainGlobals mg -> FnOk P w K mg base CX k fa fd [x] sp) (hbind : ∀ (s : Shared) (u : Value), BindsTo s fd ⟨[u], []⟩ [(x, u)])
  (hsp : ∀ H : Hp, Only H -> SqL K H a (ns.map V.int) -> sp [.ref a] H (fun v _ => v = .bl true) fun _ _ _ => False)
  (hCX : ∀ H e s', CX [] H s₁ (fun _ _ _ => False) e s' -> False) :
  codeAny (model P w) callerA (.call (.ref fa) ⟨[.ref a], []⟩) (fun r s' => r = .ok (.ret (.bool true)) /\ OldK s₁.heap s'.heap /\ s'.os = s₁.os /\ AllBare s'.gens) s₁ := by
 have rv := zvp hi
 have lenV := hi.length
 have core : ∀ H : Hp, Only H -> SqL K H a (ns.map V.int) -> HOk P w H s₁.heap -> (∀ b, H b ≠ none -> b = a) -> (H a ≠ none -> K.lookup a = none) ->
   codeAny (model P w) callerA (.call (.ref fa) ⟨[.ref a], []⟩) (fun r s' => r = .ok (.ret (.bool true)) /\ OldK s₁.heap s'.heap /\ s'.os = s₁.os /\ AllBare s'.gens) s₁ := by
  intro H hO hS hok hA hK
  have base_of : ∀ {b : Addr} {o : Obj}, s₁.heap.get? b = some o -> H b = none -> (hidT s₁.heap H).get? b = some o := fun e n => yjj e n
  have noA : ∀ {b : Addr} {o : Obj} {es : Array DictEntry} {ep : Nat}, s₁.heap.get? b = some o -> o.data = .dict es ep -> H b = none := fun {b o es ep} e d => by
   cases q : H b with
   | none => rfl
   | some u =>
    have e' : b = a := hA b (by rw [q]; simp)
    subst e'
    rw [ha] at e; cases e
    have d' : Data.seq vs.toArray _ = Data.dict es ep := d
    cases d'
  have nsK : ∀ {b : Addr} {m : Str -> Option Value}, s₁.heap.Ns b m -> (hidT s₁.heap H).Ns b m := fun {b m} hz => x3_3 hz fun o es ep e d r => ⟨o, es, ep, base_of e (noA e d), d, r⟩
  have hKb : K.In (hidT s₁.heap H) := fun b o e => base_of (KX b o e) (by
   cases q : H b with
   | none => rfl
   | some u =>
    have e' : b = a := hA b (by rw [q]; simp)
    subst e'
    rw [hK (by rw [q]; simp)] at e; cases e)
  have hM : Mod K mg (hidT s₁.heap H) := ⟨hKb, nsK hns, ⟨mb, nsK hb, hbb⟩, let ⟨mc, h1, h2⟩ := hlim; ⟨mc, nsK h1, h2⟩⟩
  have e0 : Env0 P w K mg (hidT s₁.heap H) callerA [] s₁ H := ⟨rfl, hM, fun b o e => yoj e, ziv (yey _ _), trivial, fun b hb => absurd (show b ∈ ([] : List Addr) from hb) (by simp), hok, .of_eq hg⟩
  refine zgm ((F _ hKb (nsK hns)).run callerA [] s₁ H ⟨[.ref a], []⟩ [.ref a] [.ref a] _ _ hr e0 (hbind s₁ (.ref a)) (.cons rfl .nil) (hsp H hO hS)) fun r s' h => ?_
  cases r with
  | error e => exact (hCX H e s' h).elim
  | ok fl =>
   cases fl with
   | next => exact False.elim h
   | brk => exact False.elim h
   | cont => exact False.elim h
   | ret u =>
    refine x2_6 h fun v H' os bare un hok' r' q => ?_; clear h
    have q' : v = .bl true := q
    subst q'
    obtain rfl : u = Value.bool true := r'
    refine ⟨rfl, OldK.of_keep fun b o e => ?_, os, bare⟩
    cases q : H b with
    | none => exact un.keep b o e q (by intro z; exact absurd (show b ∈ ([] : List Addr) from z) (by simp)) (by simp)
    | some u =>
     rcases hO b with z | ⟨ob, xs, z⟩
     ·rw [q] at z; cases z
     ·have z2 := un.frzs b ob _ z
      refine x0_2 (hok b _ z) fun e1 _ => ?_
      refine x0_2 (hok' b _ z2) fun e2 _ => ?_
      rw [e] at e1; cases e1
      exact e2
 cases hk : K.lookup a with
 | some o =>
  have e := KX a o hk
  rw [ha] at e
  cases e
  refine core (fun _ => none) (fun _ => .inl rfl) (.inr ⟨_, vs.toArray, _, hk, rfl, rfl, rfl, by rw [zau, lenV]; exact hl, by simpa using rv⟩) (fun b u z => by have z' : (none : Option HO) = some u := z; cases z') (fun b z => absurd rfl z) fun z => absurd rfl z
 | none =>
  refine core (fun b => if b = a then some (.frz { cls := .type "list", data := .seq vs.toArray } (.lst (ns.map V.int))) else none) (fun b => ?_) (.inl (.inr ⟨{ cls := .type "list", data := .seq vs.toArray }, if_pos rfl⟩)) (fun b u z => ?_) (fun b z => ?_) fun _ => hk
  ·by_cases hb : b = a
   ·exact .inr ⟨_, _, if_pos hb⟩
   ·exact .inl (if_neg hb)
  ·by_cases hb : b = a
   ·have z' := (if_pos hb).symm.trans z
    cases z'
    subst hb
    exact ⟨ha, by rw [zad]; exact hl, vs, _, rv, ha⟩
   ·have z' := (if_neg hb).symm.trans z
    cases z'
  ·by_cases hb : b = a
   ·exact hb
   ·exact absurd (if_neg hb) z
end L2
namespace L2
open PySem PySem.Spec PyProof.Rows
noncomputable abbrev KOf {K : PySem.W.Frag} {h : Heap} (_ : K.In h) : PySem.W.Frag := K
theorem walk_of {l : PySem.W.OpenLaw} {n k : Nat} {q : Program} {loose : List Str} {XP : (Str -> Option Value) -> Heap -> Prop} {YP : World -> Heap -> Prop} {d : DefRec} {K : Params -> PySem.W.Frag} {CX : World -> CXT} {sp : World -> Sp} {x : Str}
  (hn : l.most = some n) (hn2 : n <= sizeLine) (hdf : d.params.defaults = []) (hr : Room k callerA)
  (hY : ∀ (w : World) (h : Heap), YP w h -> (K w.params).In h)
  (F : ∀ (w : World) (mg : Str -> Option Value) (fa : Addr) (h : Heap), (K w.params).In h -> h.Ns mainGlobals mg -> mg d.name = some (.ref fa) ->
   ∃ fd : FuncData, (∀ (s : Shared) (u : Value), BindsTo s fd ⟨[u], []⟩ [(x, u)]) /\
    ∀ base : Heap, (K w.params).In base -> base.Ns mainGlobals mg -> FnOk l.prog w (K w.params) mg base (CX w) k fa fd [x] (sp w))
  (hsp : ∀ (w : World) (H : Hp) (a : Addr) (ns : List Int), ns.length <= n -> Only H -> SqL (K w.params) H a (ns.map V.int) -> sp w [.ref a] H (fun v _ => v = .bl true) fun _ _ _ => False)
  (hCX : ∀ (w : World) (H : Hp) (s : Shared) (e : Value) (s' : Shared), CX w [] H s (fun _ _ _ => False) e s' -> False) :
  PySem.W.WalkO q loose XP YP l.row.toRowW d [] (fun f vs => PySem.call f vs) := by
 refine Att.attach_call hn hdf fun w s₀ s₁ mg mb fa o pm cd doc a vs ns G Y ho hd hcd hmg hobj hints hlen hg => ?_
 have KX := hY w _ Y
 refine x1_2 (F w mg fa _ KX G.T.g hmg) fun fd hb hF => ?_
 exact yjc KX G.T.g G.T.b G.T.builtins G.T.nolimit hg hobj hints (zcb hlen hn2) hr hF hb (fun H hO hS => hsp w H a ns hlen hO hS) fun H e s' => hCX w H s₁ e s'
end L2
namespace L2
open PySem PySem.Spec PyProof.Rows
noncomputable def zmp (s : Stmt) : Arguments := match s with
 | .FunctionDef _ a _ _ _ _ _ _ _ _ => a
 | _ => { posonlyargs := [], args := [], vararg := none, kwonlyargs := [], kw_defaults := [], kwarg := none, defaults := [] }
noncomputable def zkj (s : Stmt) : List Stmt := match s with
 | .FunctionDef _ _ b _ _ _ _ _ _ _ => b
 | _ => []
noncomputable def zkg (s : Stmt) : Scope := match s with
 | .FunctionDef _ _ _ _ _ _ sc _ _ _ => sc
 | _ => { kind := .function, names := [], isGenerator := false, isCoroutine := false }
noncomputable abbrev CX0 : CXT := fun _ _ _ _ _ _ => False
noncomputable abbrev E0 : XK := fun _ _ _ => False
theorem pass0 {X : Cx} : ygx CX0 X E0 := fun _ _ _ _ _ _ _ h => h.elim
structure Fun (K : PySem.W.Frag) (x qual : Str) (st : Stmt) (f : Addr) (fd : FuncData) : Prop where
 ex : ∃ (oc : Value) (od : Option Addr) (kV doc pm : Value) (an : Option Addr) (cdv ct : Value) (osl : Array (Option Value)),
  fd = PySem.W.fnOf x qual (zmp st) (zkj st) (zkg st) .none kV doc pm an cdv ct /\ K.lookup f = some ⟨oc, od, .func fd, osl⟩ /\ PySem.W.codeIn K cdv qual = true
 kp : PySem.W.keepIn K (.ref f) = true
section
variable {P : Program} {w : World} {K : PySem.W.Frag} {mg : Str -> Option Value} {base : Heap}
theorem Fun.ok {x qual : Str} {st : Stmt} {f : Addr} {fd : FuncData} {N ps : List Str} {k : Nat} {sp : Sp} (F : Fun K x qual st f fd) (S : FnScope N ps (zkg st)) (len : ∀ vs H Q E, sp vs H Q E -> vs.length = ps.length)
  (hbody : ∀ (cdv : Value) (A : Around) (outer : List Env) (s : Shared) (H : Hp) (vs : List V) (Q : VK) (E : XK), Room k (A.deeper (envOfC qual (zkg st) s.heap.objs.size f cdv)) -> sp vs H Q E ->
   ∃ t, PSs (cxOf CX0 P w K mg base N qual (zkg st) f cdv A outer s H E).nox (zkj st) t /\ t { nx := fun _ H' => Q .non H', rt := Q } (start N vs) H) : FnOk P w K mg base CX0 (k + 1) f fd ps sp := by
 obtain ⟨oc, od, kV, doc, pm, an, cdv, ct, osl, rfl, lk, hcd⟩ := F.ex
 refine fn_of lk hcd S len fun A outer s H vs Q E hr hsp => ?_
 refine x1_2 (hbody cdv A outer s H vs Q E hr hsp) fun t h q => ?_
 exact ⟨t, h.nox, q⟩
theorem Fun.binds {x qual : Str} {st : Stmt} {f : Addr} {fd : FuncData} {ps : List Str} (F : Fun K x qual st f fd)
  (h : ∀ (kV doc pm : Value) (an : Option Addr) (cdv ct : Value) (us : List Value), us.length = ps.length -> bindArgs (PySem.W.fnOf x qual (zmp st) (zkj st) (zkg st) .none kV doc pm an cdv ct) ⟨us, []⟩ = pure (ps.zip us)) : Binds K fd ps [] := by
 obtain ⟨oc, od, kV, doc, pm, an, cdv, ct, osl, rfl, lk, hcd⟩ := F.ex
 exact .all (h kV doc pm an cdv ct)
theorem yfe {x qual : Str} {st : Stmt} {f : Addr} {oc : Value} {od an : Option Addr} {osl : Array (Option Value)} {kV doc pm cdv ct : Value} (l : K.lookup f = some ⟨oc, od, .func (PySem.W.fnOf x qual (zmp st) (zkj st) (zkg st) .none kV doc pm an cdv ct), osl⟩)
  (c : PySem.W.codeIn K cdv qual = true) (k : PySem.W.keepIn K (.ref f) = true) : Fun K x qual st f (PySem.W.fnOf x qual (zmp st) (zkj st) (zkg st) .none kV doc pm an cdv ct) := ⟨⟨oc, od, kV, doc, pm, an, cdv, ct, osl, rfl, l, c⟩, k⟩
end
section
variable {X : Cx}
end
theorem iteF {A B : Prop} (h : B) : if false = true then A else B := by
 rw [if_neg zav]
 exact h
theorem iteT {A B : Prop} (h : A) : if true = true then A else B := by
 rw [if_pos rfl]
 exact h
noncomputable def Same (H H' : Hp) : Prop := ∀ b o, H b = some o -> H' b = some o
theorem Same.refl (H : Hp) : Same H H := fun _ _ h => h
theorem Same.trans {H H1 H2 : Hp} (a : Same H H1) (b : Same H1 H2) : Same H H2 := fun c o h => b c o (a c o h)
theorem Same.free {H H' : Hp} (e : Same H H') {l : Addr} (h : H' l = Option.none) : H l = Option.none := by
 cases q : H l with
 | none => rfl
 | some o =>
  rw [e l o q] at h
  cases h
theorem Same.seq {K : PySem.W.Frag} {H H' : Hp} {a : Addr} {xs : List V} (e : Same H H') (h : SqL K H a xs) : SqL K H' a xs := by
 rcases h with (h | ⟨o, h⟩) | h
 ·exact .inl (.inl (e _ _ h))
 ·exact .inl (.inr ⟨o, e _ _ h⟩)
 ·exact .inr h
end L2
namespace DL
open PySem L2
inductive D where
 | non | bl (b : Bool) | int (i : Int) | tup (l : List D) | lst (l : List D) | exc (x : Str)
noncomputable def ExcO (a C : Addr) : HO := .ext fun h => ∃ o vs, h.get? a = some o /\ o.cls = .ref C /\ o.data = .fields vs
mutual
noncomputable def Den (K : PySem.W.Frag) (F : Hp) : D -> V -> Prop
 | .non, v => v = .non
 | .bl b, v => v = .bl b
 | .int i, v => v = .int i
 | .tup l, v => ∃ a xs, v = .ref a /\ SqT K F a xs /\ DenL K F l xs
 | .lst l, v => ∃ a xs, v = .ref a /\ SqL K F a xs /\ DenL K F l xs
 | .exc x, v => ∃ a C, v = .ref a /\ PySem.W.nsIn K mainGlobals x = some (some (.ref C)) /\ F a = some (ExcO a C)
noncomputable def DenL (K : PySem.W.Frag) (F : Hp) : List D -> List V -> Prop
 | [], xs => xs = []
 | d :: l, xs => ∃ v vs, xs = v :: vs /\ Den K F d v /\ DenL K F l vs
end
theorem Same.tup {K : PySem.W.Frag} {H H' : Hp} {a : Addr} {xs : List V} (e : Same H H') (h : SqT K H a xs) : SqT K H' a xs := by
 rcases h with (h | ⟨o, h⟩) | h
 ·exact .inl (.inl (e _ _ h))
 ·exact .inl (.inr ⟨o, e _ _ h⟩)
 ·exact .inr h
mutual
theorem Den.mono {K : PySem.W.Frag} {F F' : Hp} (s : Same F F') : ∀ (d : D) {v : V}, Den K F d v -> Den K F' d v
 | .non, _, h => by simpa only [Den] using h
 | .bl _, _, h => by simpa only [Den] using h
 | .int _, _, h => by simpa only [Den] using h
 | .tup l, _, h => by
  simp only [Den] at h ⊢
  refine x2_3 h fun a xs e q r => ?_; clear h
  exact ⟨a, xs, e, Same.tup s q, DenL.mono s l r⟩
 | .lst l, _, h => by
  simp only [Den] at h ⊢
  refine x2_3 h fun a xs e q r => ?_; clear h
  exact ⟨a, xs, e, s.seq q, DenL.mono s l r⟩
 | .exc _, _, h => by
  simp only [Den] at h ⊢
  refine x2_3 h fun a C e q r => ?_; clear h
  exact ⟨a, C, e, q, s _ _ r⟩
theorem DenL.mono {K : PySem.W.Frag} {F F' : Hp} (s : Same F F') : ∀ (l : List D) {xs : List V}, DenL K F l xs -> DenL K F' l xs
 | [], _, h => by simpa only [DenL] using h
 | d :: l, _, h => by
  simp only [DenL] at h ⊢
  refine x2_3 h fun v vs e q r => ?_; clear h
  exact ⟨v, vs, e, Den.mono s d q, DenL.mono s l r⟩
end
section
variable {K : PySem.W.Frag} {F F' : Hp}
theorem DenL.nil : DenL K F [] [] := by simp only [DenL]
theorem DenL.cons {d : D} {l : List D} {v : V} {vs : List V} (h : Den K F d v) (r : DenL K F l vs) : DenL K F (d :: l) (v :: vs) := by
 simp only [DenL]; exact ⟨v, vs, rfl, h, r⟩
theorem DenL.inv_nil {xs : List V} (h : DenL K F [] xs) : xs = [] := by simpa only [DenL] using h
theorem DenL.inv_cons {d : D} {l : List D} {xs : List V} (h : DenL K F (d :: l) xs) : ∃ v vs, xs = v :: vs /\ Den K F d v /\ DenL K F l vs := by simpa only [DenL] using h
theorem DenL.length : ∀ {l : List D} {xs : List V}, DenL K F l xs -> xs.length = l.length
 | [], _, h => by rw [h.inv_nil]; rfl
 | d :: l, _, h => by
  refine x2_3 (h.inv_cons) fun v vs e _ r => ?_
  subst e
  rw [zah, zah, r.length]
theorem DenL.get : ∀ {l : List D} {xs : List V} {i : Nat} {d : D}, DenL K F l xs -> l[i]? = some d -> ∃ v, xs[i]? = some v /\ Den K F d v
 | [], _, _, _, _, e => by simp at e
 | d :: l, _, 0, d', h, e => by
  refine x2_3 (h.inv_cons) fun v vs z q r => ?_
  subst z
  simp at e; subst e
  exact ⟨v, by simp, q⟩
 | d :: l, _, i + 1, d', h, e => by
  refine x2_3 (h.inv_cons) fun v vs z q r => ?_
  subst z
  refine x1_2 (DenL.get (i := i) (d := d') r (by simpa using e)) fun u h1 h2 => ?_
  exact ⟨u, by simpa using h1, h2⟩
theorem DenL.at : ∀ {l : List D} {xs : List V} {i : Nat} {v : V}, DenL K F l xs -> xs[i]? = some v -> ∃ d, l[i]? = some d /\ Den K F d v
 | [], _, _, _, h, e => by rw [h.inv_nil] at e; simp at e
 | d :: l, _, 0, v', h, e => by
  refine x2_3 (h.inv_cons) fun v vs z q r => ?_
  subst z
  simp at e; subst e
  exact ⟨d, by simp, q⟩
 | d :: l, _, i + 1, v', h, e => by
  refine x2_3 (h.inv_cons) fun v vs z q r => ?_
  subst z
  refine x1_2 (DenL.at (i := i) (v := v') r (by simpa using e)) fun u h1 h2 => ?_
  exact ⟨u, by simpa using h1, h2⟩
theorem DenL.append : ∀ {l m : List D} {xs ys : List V}, DenL K F l xs -> DenL K F m ys -> DenL K F (l ++ m) (xs ++ ys)
 | [], _, _, _, h, q => by rw [h.inv_nil]; simpa using q
 | d :: l, m, _, ys, h, q => by
  refine x2_3 (h.inv_cons) fun v vs z p r => ?_
  subst z
  exact DenL.cons p (DenL.append r q)
theorem DenL.take : ∀ {l : List D} {xs : List V} (n : Nat), DenL K F l xs -> DenL K F (l.take n) (xs.take n)
 | [], _, n, h => by rw [h.inv_nil]; simpa using DenL.nil
 | _ :: _, _, 0, _ => by simpa using DenL.nil
 | d :: l, _, n + 1, h => by
  refine x2_3 (h.inv_cons) fun v vs z p r => ?_
  subst z
  exact DenL.cons p (DenL.take n r)
theorem DenL.drop : ∀ {l : List D} {xs : List V} (n : Nat), DenL K F l xs -> DenL K F (l.drop n) (xs.drop n)
 | [], _, n, h => by rw [h.inv_nil]; simpa using DenL.nil
 | _ :: _, _, 0, h => by simpa using h
 | d :: l, _, n + 1, h => by
  refine x2_3 (h.inv_cons) fun v vs z p r => ?_
  subst z
  simpa using DenL.drop n r
theorem DenL.ints : ∀ (ns : List Int), DenL K F (ns.map D.int) (ns.map V.int)
 | [] => DenL.nil
 | n :: ns => DenL.cons (by simp only [Den]) (DenL.ints ns)
theorem Den.int {i : Int} {v : V} (h : Den K F (.int i) v) : v = .int i := by simpa only [Den] using h
theorem Den.bl {b : Bool} {v : V} (h : Den K F (.bl b) v) : v = .bl b := by simpa only [Den] using h
theorem Den.non {v : V} (h : Den K F .non v) : v = .non := by simpa only [Den] using h
theorem Den.tup {l : List D} {v : V} (h : Den K F (.tup l) v) : ∃ a xs, v = .ref a /\ SqT K F a xs /\ DenL K F l xs := by simpa only [Den] using h
theorem Den.lst {l : List D} {v : V} (h : Den K F (.lst l) v) : ∃ a xs, v = .ref a /\ SqL K F a xs /\ DenL K F l xs := by simpa only [Den] using h
theorem Den.exc {x : Str} {v : V} (h : Den K F (.exc x) v) : ∃ a C, v = .ref a /\ PySem.W.nsIn K mainGlobals x = some (some (.ref C)) /\ F a = some (ExcO a C) := by simpa only [Den] using h
theorem Den.int_mk {i : Int} : Den K F (.int i) (.int i) := by simp only [Den]
theorem Den.bl_mk {b : Bool} : Den K F (.bl b) (.bl b) := by simp only [Den]
theorem Den.non_mk : Den K F .non .non := by simp only [Den]
theorem Den.tup_mk {l : List D} {a : Addr} {xs : List V} (q : SqT K F a xs) (r : DenL K F l xs) : Den K F (.tup l) (.ref a) := by simp only [Den]; exact ⟨a, xs, rfl, q, r⟩
theorem Den.lst_mk {l : List D} {a : Addr} {xs : List V} (q : SqL K F a xs) (r : DenL K F l xs) : Den K F (.lst l) (.ref a) := by simp only [Den]; exact ⟨a, xs, rfl, q, r⟩
end
inductive W where
 | val (d : D) | new (l : List D)
noncomputable def W.d : W -> D
 | .val d => d
 | .new l => .lst l
noncomputable abbrev Rho := List (Option D)
structure ER (K : PySem.W.Frag) (H0 Fc F H : Hp) (σ : St) (ρ : Rho) : Prop where
 sub : Same F H
 same : Same H0 H
 base : Same Fc F
 new : ∀ a o, F a = some o -> Fc a = some o ∨ H0 a = none
 env : ∀ (i : Nat) d, ρ[i]? = some (some d) -> ∃ v, σ[i]? = some (some v) /\ Den K F d v
noncomputable def RW (K : PySem.W.Frag) (H0 F H : Hp) : W -> V -> Prop
 | .val d, v => Den K F d v
 | .new l, v => ∃ a xs, v = .ref a /\ F a = none /\ H0 a = none /\ H a = some (.lst xs) /\ DenL K F l xs
theorem zmt {F : Hp} {a : Addr} {o : HO} (h : F a = none) : Same F (upd F a o) := fun b u e => by
 rw [zkp (fun z => by subst z; rw [h] at e; cases e)]; exact e
section
variable {K : PySem.W.Frag} {H0 Fc F H : Hp} {σ : St} {ρ : Rho}
theorem ER.lay (R : ER K H0 Fc F H σ ρ) {a : Addr} (o : HO) (hn : H a = none) : ER K H0 Fc (upd F a o) (upd H a o) σ ρ /\ Same F (upd F a o) := by
 have hF : F a = none := by
  cases q : F a with
  | none => rfl
  | some u => rw [R.sub a u q] at hn; cases hn
 have h0 : H0 a = none := R.same.free hn
 have sF := zmt (o := o) hF
 refine ⟨⟨fun b u e => ?_, R.same.trans (zmt hn), R.base.trans sF, fun b u e => ?_, fun i d e => ?_⟩, sF⟩
 ·by_cases hb : b = a
  ·subst hb; rw [zko] at e ⊢; exact e
  ·rw [zkp hb] at e ⊢; exact R.sub b u e
 ·by_cases hb : b = a
  ·subst hb; exact .inr h0
  ·rw [zkp hb] at e; exact R.new b u e
 ·refine x1_2 (R.env i d e) fun v h1 h2 => ?_
  exact ⟨v, h1, h2.mono sF⟩
theorem ER.freeze (R : ER K H0 Fc F H σ ρ) {a : Addr} {xs : List V} (hF : F a = none) (h0 : H0 a = none) (hH : H a = some (.lst xs)) : ER K H0 Fc (upd F a (.lst xs)) H σ ρ /\ Same F (upd F a (.lst xs)) := by
 have sF := zmt (o := .lst xs) hF
 refine ⟨⟨fun b u e => ?_, R.same, R.base.trans sF, fun b u e => ?_, fun i d e => ?_⟩, sF⟩
 ·by_cases hb : b = a
  ·subst hb; rw [zko] at e; cases e; exact hH
  ·rw [zkp hb] at e; exact R.sub b u e
 ·by_cases hb : b = a
  ·subst hb; exact .inr h0
  ·rw [zkp hb] at e; exact R.new b u e
 ·refine x1_2 (R.env i d e) fun v h1 h2 => ?_
  exact ⟨v, h1, h2.mono sF⟩
theorem RW.freeze {w : W} {v : V} (R : ER K H0 Fc F H σ ρ) (h : RW K H0 F H w v) : ∃ F', Same F F' /\ ER K H0 Fc F' H σ ρ /\ Den K F' w.d v := by
 cases w with
 | val d => exact ⟨F, Same.refl _, R, h⟩
 | new l =>
  refine x2_5 h fun a xs e hF h0 hH r => ?_; clear h
  subst e
  refine x0_2 (R.freeze hF h0 hH) fun R' s => ?_
  exact ⟨_, s, R', Den.lst_mk (SqL.of zko) (r.mono s)⟩
end
section
variable (K : PySem.W.Frag) (H0 Fc : Hp) (ρ : Rho)
noncomputable def tD (w : W) : TE := fun σ H Q => ∃ F, ER K H0 Fc F H σ ρ /\ ∀ v H' F', Same F F' -> ER K H0 Fc F' H' σ ρ -> RW K H0 F' H' w v -> Q v H'
noncomputable def tDf (d : D) : TE := fun σ H Q => ∃ F, ER K H0 Fc F H σ ρ /\ ∀ v H' F', Same F F' -> ER K H0 Fc F' H' σ ρ -> Den K F' d v -> Q v H'
noncomputable def tDA (ds : List D) : TA := fun σ H Q => ∃ F, ER K H0 Fc F H σ ρ /\ ∀ vs H' F', Same F F' -> ER K H0 Fc F' H' σ ρ -> DenL K F' ds vs -> Q vs H'
noncomputable def tDT (b : Bool) : TT := fun σ H Q => ∃ F, ER K H0 Fc F H σ ρ /\ ∀ H' F', Same F F' -> ER K H0 Fc F' H' σ ρ -> Q b H'
end
theorem PE.mono {X : Cx} {e : Expr} {t t' : TE} (h : PE X e t) (k : ∀ σ H Q, t' σ H Q -> t σ H Q) : PE X e t' := fun pins s σ H Q I q => h pins s σ H Q I (k σ H Q q)
theorem PT.mono {X : Cx} {e : Expr} {t t' : TT} (h : PT X e t) (k : ∀ σ H Q, t' σ H Q -> t σ H Q) : PT X e t' := fun pins s σ H Q I q => h pins s σ H Q I (k σ H Q q)
theorem PW.mono {X : Cx} {e : Expr} {t t' : TT} (h : PW X e t) (k : ∀ σ H Q, t' σ H Q -> t σ H Q) : PW X e t' := fun wh pins s σ H Q I q => h wh pins s σ H Q I (k σ H Q q)
theorem PA.mono {X : Cx} {e : List Expr} {t t' : TA} (h : PA X e t) (k : ∀ σ H Q, t' σ H Q -> t σ H Q) : PA X e t' := fun pos pins s σ H Q I q => h pos pins s σ H Q I (k σ H Q q)
theorem PS.mono {X : Cx} {e : Stmt} {t t' : TS} (h : PS X e t) (k : ∀ D σ H, t' D σ H -> t D σ H) : PS X e t' := fun pins s σ H D I q => h pins s σ H D I (k D σ H q)
theorem PSs.mono {X : Cx} {e : List Stmt} {t t' : TS} (h : PSs X e t) (k : ∀ D σ H, t' D σ H -> t D σ H) : PSs X e t' := fun pins s σ H D I q => h pins s σ H D I (k D σ H q)
noncomputable def DE (X : Cx) (e : Expr) (ρ : Rho) (w : W) : Prop := ∀ H0 Fc, PE X e (tD X.K H0 Fc ρ w)
noncomputable def DF (X : Cx) (e : Expr) (ρ : Rho) (d : D) : Prop := ∀ H0 Fc, PE X e (tDf X.K H0 Fc ρ d)
noncomputable def DA (X : Cx) (es : List Expr) (ρ : Rho) (ds : List D) : Prop := ∀ H0 Fc, PA X es (tDA X.K H0 Fc ρ ds)
noncomputable def DT (X : Cx) (e : Expr) (ρ : Rho) (b : Bool) : Prop := ∀ H0 Fc, PT X e (tDT X.K H0 Fc ρ b)
noncomputable def DW (X : Cx) (e : Expr) (ρ : Rho) (b : Bool) : Prop := ∀ H0 Fc, PW X e (tDT X.K H0 Fc ρ b)
section
variable {X : Cx} {e a b c : Expr} {es : List Expr} {ρ : Rho} {w : W} {pos : Pos}
theorem DE.df (h : DE X e ρ w) : DF X e ρ w.d := fun H0 Fc => PE.mono (h H0 Fc) fun σ H Q hz => x1_2 hz fun F R k =>
 ⟨F, R, fun v H' F' s R' q => by
  refine x1_3 (RW.freeze R' q) fun F2 s2 R2 q2 => ?_
  exact k v H' F2 (s.trans s2) R2 q2⟩
theorem DF.de {d : D} (h : DF X e ρ d) : DE X e ρ (.val d) := fun H0 Fc => PE.mono (h H0 Fc) fun σ H Q hz => x1_2 hz fun F R k => ⟨F, R, fun v H' F' s R' q => k v H' F' s R' q⟩
theorem DF.var {i : Nat} {x : Str} {d : D} (hN : X.N[i]? = some x) (hv : Vis X.env.scope x) (hd : (x == ("__debug__" : Str)) = false) (hcd : (x == ("__classdict__" : Str)) = false) (hr : ρ[i]? = some (some d)) : DF X (.Name x pos) ρ d := fun H0 Fc =>
 PE.mono (zpz hN hv hd hcd) fun σ H Q hz => x1_2 hz fun F R k => by
  refine x1_2 (R.env i d hr) fun v h1 h2 => ?_
  exact ⟨v, h1, k v H F (Same.refl _) R h2⟩
theorem DF.cint {i : Int} {j} : DF X (.Constant (.int i) j pos) ρ (.int i) := fun H0 Fc => PE.mono pe_int fun σ H Q hz => x1_2 hz fun F R k => k _ H F (Same.refl _) R Den.int_mk
theorem DF.cbl {i : Bool} {j} : DF X (.Constant (.bool i) j pos) ρ (.bl i) := fun H0 Fc => PE.mono pe_bl fun σ H Q hz => x1_2 hz fun F R k => k _ H F (Same.refl _) R Den.bl_mk
theorem DF.cnon {j} : DF X (.Constant .none j pos) ρ .non := fun H0 Fc => PE.mono pe_non fun σ H Q hz => x1_2 hz fun F R k => k _ H F (Same.refl _) R Den.non_mk
theorem zof {x y : D} {H0 Fc : Hp} {r : R2} {w : W} {K : PySem.W.Frag}
  (hr : ∀ H F σ v u (Q : VK), ER K H0 Fc F H σ ρ -> Den K F x v -> Den K F y u -> (∀ v' H' F', Same F F' -> ER K H0 Fc F' H' σ ρ -> RW K H0 F' H' w v' -> Q v' H') -> r v u H Q) :
  ∀ σ H Q, tD K H0 Fc ρ w σ H Q -> tOp r (tDf K H0 Fc ρ x) (tDf K H0 Fc ρ y) σ H Q := fun σ H Q hz => x1_2 hz fun F R k =>
 ⟨F, R, fun v H1 F1 s1 R1 q1 => ⟨F1, R1, fun u H2 F2 s2 R2 q2 => hr H2 F2 σ v u Q R2 (q1.mono s2) q2 fun v' H' F' s' R' q' => k v' H' F' ((s1.trans s2).trans s') R' q'⟩⟩
theorem DE.opI {op : Operator} {C : Int -> Int -> Prop} {g : Int -> Int -> V} {x y : Int} {z : D} (ho : OpR X (binaryOp op) (rI C g)) (ha : DF X a ρ (.int x)) (hb : DF X b ρ (.int y)) (hc : C x y) (hz : ∀ K F, Den K F z (g x y)) :
  DE X (.BinOp a op b pos) ρ (.val z) := fun H0 Fc => PE.mono (ynw ho (ha H0 Fc) (hb H0 Fc)) (zof fun H F σ v u Q R qv qu k => by
   have e1 := qv.int; have e2 := qu.int
   subst e1; subst e2
   exact ⟨x, y, rfl, rfl, hc, k _ H F (Same.refl _) R (hz _ _)⟩)
theorem DE.opI0 {op : Operator} {g : Int -> Int -> V} {x y : Int} {z : D} (ho : OpR X (binaryOp op) (rI0 g)) (ha : DF X a ρ (.int x)) (hb : DF X b ρ (.int y)) (hz : ∀ K F, Den K F z (g x y)) :
  DE X (.BinOp a op b pos) ρ (.val z) := fun H0 Fc => PE.mono (ynw ho (ha H0 Fc) (hb H0 Fc)) (zof fun H F σ v u Q R qv qu k => by
   have e1 := qv.int; have e2 := qu.int
   subst e1; subst e2
   exact ⟨x, y, rfl, rfl, k _ H F (Same.refl _) R (hz _ _)⟩)
end
end DL
namespace DL
open PySem L2 PyProof.Rows
section
variable {K : PySem.W.Frag} {H0 Fc F H : Hp} {σ : L2.St} {ρ : Rho}
theorem ER.put (R : ER K H0 Fc F H σ ρ) {a : Addr} (o : HO) (hn : H a = none) : ER K H0 Fc F (upd H a o) σ ρ /\ F a = none /\ H0 a = none := by
 have hF : F a = none := by
  cases q : F a with
  | none => rfl
  | some u => rw [R.sub a u q] at hn; cases hn
 exact ⟨⟨R.sub.trans (zmt hn), R.same.trans (zmt hn), R.base, R.new, R.env⟩, hF, R.same.free hn⟩
end
section
variable {K : PySem.W.Frag} {H0 F H : Hp}
theorem RW.v {d : D} {v : V} (h : Den K F d v) : RW K H0 F H (.val d) v := h
theorem RW.int {i : Int} : RW K H0 F H (.val (.int i)) (.int i) := RW.v Den.int_mk
theorem RW.bl {i : Bool} : RW K H0 F H (.val (.bl i)) (.bl i) := RW.v Den.bl_mk
theorem RW.n {l : List D} {a : Addr} {xs : List V} (h1 : F a = none) (h2 : H0 a = none) (h3 : H a = some (.lst xs)) (h4 : DenL K F l xs) : RW K H0 F H (.new l) (.ref a) := ⟨a, xs, rfl, h1, h2, h3, h4⟩
end
section
variable {X : Cx} {e a b c : Expr} {es : List Expr} {ρ : Rho} {w : W} {pos : Pos}
theorem yml {x : D} {H0 Fc : Hp} {r : V -> Hp -> VK -> Prop} {w : W} {K : PySem.W.Frag}
  (hr : ∀ H F σ v (Q : VK), ER K H0 Fc F H σ ρ -> Den K F x v -> (∀ v' H' F', Same F F' -> ER K H0 Fc F' H' σ ρ -> RW K H0 F' H' w v' -> Q v' H') -> r v H Q) :
  ∀ σ H Q, tD K H0 Fc ρ w σ H Q -> tUn r (tDf K H0 Fc ρ x) σ H Q := fun σ H Q hz => x1_2 hz fun F R k =>
 ⟨F, R, fun v H1 F1 s1 R1 q1 => hr H1 F1 σ v Q R1 q1 fun v' H' F' s' R' q' => k v' H' F' (s1.trans s') R' q'⟩
theorem DE.neg {x : Int} (ha : DF X a ρ (.int x)) : DE X (.UnaryOp .USub a pos) ρ (.val (.int (-x))) := fun H0 Fc => PE.mono (pe_un un_neg (ha H0 Fc)) (yml fun H F σ v Q R qv k => by
 have e1 := qv.int
 subst e1
 exact ⟨x, rfl, k _ H F (Same.refl _) R RW.int⟩)
noncomputable def zki : Expr -> Bool
 | .Starred _ _ => false
 | _ => true
theorem zkm {env : Env} (h : zki e = true) : starEach (e :: es) env = (false, eval e env) :: starEach es env := by
 cases e <;> first | rfl | (cases h; done)
theorem zmn {env : Env} : ∀ {es : List Expr}, es.all zki = true -> (backTo pos (starEach es env)).any (·.1) = false
 | [], _ => rfl
 | e :: es, h => by
  rw [zdk, zaj] at h
  rw [zkm h.1]
  show (false || (backTo pos (starEach es env)).any (·.1)) = false
  rw [zmn h.2]; rfl
theorem DA.nil : DA X [] ρ [] := fun H0 Fc => PA.mono yea fun σ H Q hz => x1_2 hz fun F R k => k [] H F (Same.refl _) R DenL.nil
theorem DA.cons {d : D} {ds : List D} (ha : DF X e ρ d) (hr : DA X es ρ ds) (hs : zki e = true) : DA X (e :: es) ρ (d :: ds) := fun H0 Fc =>
 PA.mono (zry (ha H0 Fc) (hr H0 Fc) (zkm hs)) fun σ H Q hz => x1_2 hz fun F R k =>
  ⟨F, R, fun v H1 F1 s1 R1 q1 => ⟨F1, R1, fun vs H2 F2 s2 R2 q2 => k (v :: vs) H2 F2 (s1.trans s2) R2 (DenL.cons (q1.mono s2) q2)⟩⟩
theorem DE.tup {ds : List D} {x1} (ha : DA X es ρ ds) (hl : ds.length <= sizeLine) : DE X (.Tuple es x1 pos) ρ (.val (.tup ds)) := fun H0 Fc => PE.mono (pe_tup (ha H0 Fc)) fun σ H Q hz => x1_2 hz fun F R k =>
 ⟨F, R, fun vs H1 F1 s1 R1 q1 => ⟨by rw [q1.length]; exact hl, fun p hp => by
  refine x0_2 (R1.lay (.tup vs) hp) fun R2 s2 => ?_
  exact k _ _ _ (s1.trans s2) R2 (RW.v (Den.tup_mk (SqT.of zko) (q1.mono s2)))⟩⟩
theorem DE.lst {ds : List D} (ha : DA X es ρ ds) (hl : ds.length <= sizeLine) : DE X (.List es pos) ρ (.new ds) := fun H0 Fc => PE.mono (pe_lst (ha H0 Fc)) fun σ H Q hz => x1_2 hz fun F R k =>
 ⟨F, R, fun vs H1 F1 s1 R1 q1 => ⟨by rw [q1.length]; exact hl, fun p hp => by
  refine x0_3 (R1.put (.lst vs) hp) fun R2 hF h0 => ?_
  exact k _ _ _ s1 R2 (RW.n hF h0 zko q1)⟩⟩
noncomputable def znz : Expr -> Bool
 | .Slice _ _ _ _ => false
 | _ => true
theorem yds (h : znz b = true) : ygw b := fun o i => by
 cases b <;> first | rfl | (cases h; done)
theorem ygo {K : PySem.W.Frag} {F : Hp} {l : List D} {xs : List V} {i : Int} {d : D} (h : DenL K F l xs) (e : atI l i = some d) : ∃ v, atI xs i = some v /\ Den K F d v := by
 unfold atI at e ⊢
 rw [h.length]
 cases q : ixN l.length i with
 | none => rw [q] at e; cases e
 | some j =>
  rw [q] at e
  exact h.get e
theorem DE.ixT {l : List D} {i : Int} {d : D} (ha : DF X a ρ (.tup l)) (hb : DF X b ρ (.int i)) (hs : znz b = true) (hi : atI l i = some d) : DE X (.Subscript a b pos) ρ (.val d) := fun H0 Fc =>
 PE.mono (pe_ix ix_tup (ha H0 Fc) (hb H0 Fc) (yds hs)) (zof fun H F σ v u Q R qv qu k => by
  refine x2_3 (qv.tup) fun p xs e1 sq r => ?_
  have e2 := qu.int
  subst e1; subst e2
  refine x1_2 (ygo r hi) fun y h1 h2 => ?_
  exact ⟨p, xs, i, y, rfl, rfl, Same.tup R.sub sq, h1, k _ H F (Same.refl _) R (RW.v h2)⟩)
theorem DE.ixL {l : List D} {i : Int} {d : D} (ha : DF X a ρ (.lst l)) (hb : DF X b ρ (.int i)) (hs : znz b = true) (hi : atI l i = some d) : DE X (.Subscript a b pos) ρ (.val d) := fun H0 Fc =>
 PE.mono (pe_ix ypa (ha H0 Fc) (hb H0 Fc) (yds hs)) (zof fun H F σ v u Q R qv qu k => by
  refine x2_3 (qv.lst) fun p xs e1 sq r => ?_
  have e2 := qu.int
  subst e1; subst e2
  refine x1_2 (ygo r hi) fun y h1 h2 => ?_
  exact ⟨p, xs, i, y, rfl, rfl, R.sub.seq sq, h1, k _ H F (Same.refl _) R (RW.v h2)⟩)
noncomputable def DO (X : Cx) (e : Option Expr) (ρ : Rho) (o : Option Int) : Prop := ∀ H0 Fc, PO X e (fun σ H Q => ∃ F, ER X.K H0 Fc F H σ ρ /\ ∀ H' F', Same F F' -> ER X.K H0 Fc F' H' σ ρ -> Q o H')
theorem DO.none : DO X none ρ none := fun H0 Fc pins s σ H Q I hz => x1_2 hz fun F R k => ynv pins s σ H Q I (k H F (Same.refl _) R)
theorem DO.some {i : Int} (h : DF X e ρ (.int i)) : DO X (some e) ρ (some i) := fun H0 Fc pins s σ H Q I hz => x1_2 hz fun F R k => ynu (h H0 Fc) pins s σ H Q I
 ⟨F, R, fun v H' F' s' R' q' => ⟨i, q'.int, k H' F' s' R'⟩⟩
noncomputable def cutD (l : List D) (lo hi : Option Int) : List D := (l.drop (HT.sIx l.length 0 lo)).take (HT.sIx l.length l.length hi - HT.sIx l.length 0 lo)
theorem yjy {K : PySem.W.Frag} {F : Hp} {l : List D} {xs : List V} {lo hi : Option Int} (h : DenL K F l xs) : DenL K F (cutD l lo hi) (cutV xs lo hi) := by
 unfold cutD cutV
 rw [h.length]
 exact (h.drop _).take _
theorem DE.slL {l : List D} {lo hi : Option Expr} {i j : Option Int} {p2 : Pos} (ha : DF X a ρ (.lst l)) (hl : DO X lo ρ i) (hh : DO X hi ρ j) : DE X (.Subscript a (.Slice lo hi none p2) pos) ρ (.new (cutD l i j)) := fun H0 Fc =>
 PE.mono (yij yna (ha H0 Fc) (hl H0 Fc) (hh H0 Fc)) fun σ H Q hz => x1_2 hz fun F R k => ⟨F, R, fun v H1 F1 s1 R1 q1 => ⟨F1, R1, fun H2 F2 s2 R2 => ⟨F2, R2, fun H3 F3 s3 R3 => by
  refine x2_3 (q1.lst) fun p xs e1 sq r => ?_
  subst e1
  refine ⟨p, xs, rfl, R3.sub.seq (s3.seq (s2.seq sq)), fun q hq => ?_⟩
  refine x0_3 (R3.put (.lst (cutV xs i j)) hq) fun R4 hF h0 => ?_
  exact k _ _ _ (s1.trans (s2.trans s3)) R4 (RW.n hF h0 zko (yjy ((r.mono s2).mono s3)))⟩⟩⟩
noncomputable def spD (K : PySem.W.Frag) (n : Nat) (φ : List D -> Option W) : Sp := fun vs H Q _ => ∃ F ds w, Same F H /\ DenL K F ds vs /\ ds.length = n /\ φ ds = some w /\
 ∀ v H' F', Same H H' -> Same F F' -> Same F' H' -> (∀ a o, F' a = some o -> F a = some o ∨ H a = none) -> RW K H F' H' w v -> Q v H'
noncomputable def ymh (X : Cx) (x : Str) (n : Nat) (φ : List D -> Option W) : Prop := ∃ (k : Nat) (f : Addr) (fd : FuncData) (ps : List Str),
 FnOk X.prog X.w X.K X.mg X.base CX0 k f fd ps (spD X.K n φ) /\ Room k X.A /\ X.mg x = some (.ref f) /\ PySem.W.keepIn X.K (.ref f) = true /\ Binds X.K fd ps []
theorem ER.called {K : PySem.W.Frag} {H0 Fc F H F' H' : Hp} {σ : L2.St} {ρ : Rho} (R : ER K H0 Fc F H σ ρ) (s1 : Same H H') (s2 : Same F F') (s3 : Same F' H') (hn : ∀ a o, F' a = some o -> F a = some o ∨ H a = none) : ER K H0 Fc F' H' σ ρ :=
 ⟨s3, R.same.trans s1, R.base.trans s2, fun a o e => (hn a o e).elim (R.new a o) fun z => .inr (R.same.free z), fun i d e => by
  refine x1_2 (R.env i d e) fun v h1 h2 => ?_
  exact ⟨v, h1, h2.mono s2⟩⟩
theorem DE.call {x : Str} {p : Pos} {n : Nat} {φ : List D -> Option W} {ds : List D} (hc : ymh X x n φ) (hg : Gl X x) (hdb : (x == ("__debug__" : Str)) = false) (ha : DA X (e :: es) ρ ds) (hn : ds.length = n) (hw : φ ds = some w) (hs : zki e = true) (hss : es.all zki = true) :
  DE X (.Call (.Name x p) (e :: es) [] pos) ρ w := fun H0 Fc => by
 refine x4_5 hc fun k f fd ps G hr hm hk hb => ?_; clear hc
 refine PE.mono (ydz (E := E0) G hr hg hm hk hb .nil pass0 (ha H0 Fc) hdb (zkm hs) (zmn hss)) fun σ H Q hz => x1_2 hz fun F R k => ⟨F, R, fun vs H1 F1 s1 R1 q1 => ?_⟩
 refine ⟨F1, ds, w, R1.sub, by rw [zdi]; exact q1, hn, hw, fun v H' F' a1 a2 a3 a4 a5 => k v H' F' (s1.trans a2) (R1.called a1 a2 a3 a4) ?_⟩
 cases w with
 | val d => exact a5
 | new l =>
  refine x2_5 a5 fun a xs e1 b1 b2 b3 b4 => ?_; clear a5
  exact ⟨a, xs, e1, b1, R1.same.free b2, b3, b4⟩
theorem DT.val {e : Expr} {k : Bool} (h : DF X e ρ (.bl k)) (he : ∀ whole, isTrue e X.env whole = (do let v <- whole; standAt e.pos; holding [v] (truthy v))) : DT X e ρ k := fun H0 Fc =>
 PT.mono (pt_val (h H0 Fc) he) fun σ H Q hz => x1_2 hz fun F R q => ⟨F, R, fun v H1 F1 s1 R1 q1 => ⟨k, q1.bl, q H1 F1 s1 R1⟩⟩
theorem DT.not {k : Bool} (h : DT X a ρ k) : DT X (.UnaryOp .Not a pos) ρ (!k) := fun H0 Fc => PT.mono (pt_not (h H0 Fc)) fun σ H Q hz => x1_2 hz fun F R q => ⟨F, R, fun H1 F1 s1 R1 => q H1 F1 s1 R1⟩
theorem DW.dt {k : Bool} (h : DW X e ρ k) : DT X e ρ k := fun H0 Fc => (h H0 Fc).pt
theorem DW.and1 {k : Bool} (h : DT X a ρ k) : DW X (.BoolOp .And [a] pos) ρ k := fun H0 Fc => ynp (h H0 Fc)
theorem DW.or1 {k : Bool} (h : DT X a ρ k) : DW X (.BoolOp .Or [a] pos) ρ k := fun H0 Fc => pw_or1 (h H0 Fc)
theorem DW.andT {k : Bool} (h : DT X a ρ true) (h2 : DW X (.BoolOp .And (b :: es) pos) ρ k) : DW X (.BoolOp .And (a :: b :: es) pos) ρ k := fun H0 Fc => PW.mono (ylf (h H0 Fc) (h2 H0 Fc)) fun σ H Q hz => x1_2 hz fun F R q =>
 ⟨F, R, fun H1 F1 s1 R1 => iteT (⟨F1, R1, fun H2 F2 s2 R2 => q H2 F2 (s1.trans s2) R2⟩)⟩
theorem DW.andF {tb} (h : DT X a ρ false) (h2 : PW X (.BoolOp .And (b :: es) pos) tb) : DW X (.BoolOp .And (a :: b :: es) pos) ρ false := fun H0 Fc => PW.mono (ylf (h H0 Fc) h2) fun σ H Q hz => x1_2 hz fun F R q =>
 ⟨F, R, fun H1 F1 s1 R1 => iteF (q H1 F1 s1 R1)⟩
theorem DW.orF {k : Bool} (h : DT X a ρ false) (h2 : DW X (.BoolOp .Or (b :: es) pos) ρ k) : DW X (.BoolOp .Or (a :: b :: es) pos) ρ k := fun H0 Fc => PW.mono (pw_or (h H0 Fc) (h2 H0 Fc)) fun σ H Q hz => x1_2 hz fun F R q =>
 ⟨F, R, fun H1 F1 s1 R1 => iteF (⟨F1, R1, fun H2 F2 s2 R2 => q H2 F2 (s1.trans s2) R2⟩)⟩
theorem DW.orT {tb} (h : DT X a ρ true) (h2 : PW X (.BoolOp .Or (b :: es) pos) tb) : DW X (.BoolOp .Or (a :: b :: es) pos) ρ true := fun H0 Fc => PW.mono (pw_or (h H0 Fc) h2) fun σ H Q hz => x1_2 hz fun F R q =>
 ⟨F, R, fun H1 F1 s1 R1 => iteT (q H1 F1 s1 R1)⟩
theorem zzf : PW X e (fun _ _ _ => False) := fun _ _ _ _ _ _ _ h => h.elim
theorem zzl : PE X e (fun _ _ _ => False) := fun _ _ _ _ _ _ h => h.elim
theorem DE.not {k : Bool} (h : DF X a ρ (.bl k)) : DE X (.UnaryOp .Not a pos) ρ (.val (.bl (!k))) := fun H0 Fc => PE.mono (pe_not (h H0 Fc)) fun σ H Q hz => x1_2 hz fun F R q =>
 ⟨F, R, fun v H1 F1 s1 R1 q1 => ⟨k, q1.bl, q _ H1 F1 s1 R1 RW.bl⟩⟩
theorem DE.one {op} (h : DE X a ρ w) : DE X (.BoolOp op [a] pos) ρ w := fun H0 Fc => pe_one (h H0 Fc)
theorem DE.andT (h : DF X a ρ (.bl true)) (h2 : DE X (.BoolOp .And (b :: es) pos) ρ w) : DE X (.BoolOp .And (a :: b :: es) pos) ρ w := fun H0 Fc => PE.mono (ylk (h H0 Fc) (h2 H0 Fc)) fun σ H Q hz => x1_2 hz fun F R q =>
 ⟨F, R, fun v H1 F1 s1 R1 q1 => ⟨true, q1.bl, iteT (⟨F1, R1, fun v H2 F2 s2 R2 q2 => q v H2 F2 (s1.trans s2) R2 q2⟩)⟩⟩
theorem DE.andF (h : DF X a ρ (.bl false)) : DE X (.BoolOp .And (a :: b :: es) pos) ρ (.val (.bl false)) := fun H0 Fc => PE.mono (ylk (h H0 Fc) zzl) fun σ H Q hz => x1_2 hz fun F R q =>
 ⟨F, R, fun v H1 F1 s1 R1 q1 => ⟨false, q1.bl, iteF (q _ H1 F1 s1 R1 RW.bl)⟩⟩
theorem DE.orF (h : DF X a ρ (.bl false)) (h2 : DE X (.BoolOp .Or (b :: es) pos) ρ w) : DE X (.BoolOp .Or (a :: b :: es) pos) ρ w := fun H0 Fc => PE.mono (pe_or (h H0 Fc) (h2 H0 Fc)) fun σ H Q hz => x1_2 hz fun F R q =>
 ⟨F, R, fun v H1 F1 s1 R1 q1 => ⟨false, q1.bl, iteF (⟨F1, R1, fun v H2 F2 s2 R2 q2 => q v H2 F2 (s1.trans s2) R2 q2⟩)⟩⟩
theorem DE.orT (h : DF X a ρ (.bl true)) : DE X (.BoolOp .Or (a :: b :: es) pos) ρ (.val (.bl true)) := fun H0 Fc => PE.mono (pe_or (h H0 Fc) zzl) fun σ H Q hz => x1_2 hz fun F R q =>
 ⟨F, R, fun v H1 F1 s1 R1 q1 => ⟨true, q1.bl, iteT (q _ H1 F1 s1 R1 RW.bl)⟩⟩
noncomputable def znf (X : Cx) (op : CmpOp) (x y : D) (k : Bool) : Prop := ∃ r, OpR X (compareOp op) r /\
 ∀ (H F : Hp) (v u : V) (Q : VK), Same F H -> Den X.K F x v -> Den X.K F y u -> Q (.bl k) H -> r v u H Q
theorem DE.cmp {op : CmpOp} {x y : D} {k : Bool} (hc : znf X op x y k) (ha : DF X a ρ x) (hb : DF X b ρ y) (hm : behindInMarks op b = false) : DE X (.Compare a [op] [b] pos) ρ (.val (.bl k)) := fun H0 Fc => by
 refine x1_2 hc fun r ho hr => ?_; clear hc
 exact PE.mono (ynx ho (ha H0 Fc) (hb H0 Fc) hm) (zof fun H F σ v u Q R qv qu q => hr H F v u Q R.sub qv qu (q _ H F (Same.refl _) R RW.bl))
theorem DT.cmp {op : CmpOp} {x y : D} {k : Bool} (hc : znf X op x y k) (ha : DF X a ρ x) (hb : DF X b ρ y) (hm : behindInMarks op b = false) : DT X (.Compare a [op] [b] pos) ρ k := fun H0 Fc => by
 refine x1_2 hc fun r ho hr => ?_; clear hc
 refine PT.mono (yns ho (ha H0 Fc) (hb H0 Fc) hm) fun σ H Q hz => x1_2 hz fun F R q => ⟨F, R, fun v H1 F1 s1 R1 q1 => ⟨F1, R1, fun u H2 F2 s2 R2 q2 => ?_⟩⟩
 exact hr H2 F2 v u _ R2.sub (q1.mono s2) q2 ⟨k, rfl, q H2 F2 (s1.trans s2) R2⟩
theorem cmpI {op : CmpOp} {g : Int -> Int -> Bool} {x y : Int} (ho : OpR X (compareOp op) (rI0 fun i j => .bl (g i j))) : znf X op (.int x) (.int y) (g x y) :=
 ⟨_, ho, fun H F v u Q s qv qu q => ⟨x, y, qv.int, qu.int, q⟩⟩
theorem cmp_lt {x y : Int} : znf X .Lt (.int x) (.int y) (decide (x < y)) := cmpI op_lt
theorem cmp_le {x y : Int} : znf X .LtE (.int x) (.int y) (decide (x <= y)) := cmpI op_le
theorem cmp_gt {x y : Int} : znf X .Gt (.int x) (.int y) (decide (y < x)) := cmpI op_gt
theorem cmp_ge {x y : Int} : znf X .GtE (.int x) (.int y) (decide (y <= x)) := cmpI op_ge
theorem yqe {x y : Int} : znf X .Eq (.int x) (.int y) (decide (x = y)) := ⟨_, op_eq, fun H F v u Q s qv qu q => by
 have e1 := qv.int; have e2 := qu.int
 subst e1; subst e2
 exact ⟨rfl, by rw [zva, ziq]; exact q⟩⟩
theorem yqa {x y : Int} : znf X .NotEq (.int x) (.int y) (!decide (x = y)) := ⟨_, op_ne, fun H F v u Q s qv qu q => by
 have e1 := qv.int; have e2 := qu.int
 subst e1; subst e2
 exact ⟨rfl, by rw [zva, ziq]; exact q⟩⟩
theorem yqf {x y : Bool} : znf X .Eq (.bl x) (.bl y) (x == y) := ⟨_, op_eq, fun H F v u Q s qv qu q => by
 have e1 := qv.bl; have e2 := qu.bl
 subst e1; subst e2
 exact ⟨rfl, by rw [yak]; exact q⟩⟩
theorem yqb {x y : Bool} : znf X .NotEq (.bl x) (.bl y) (!(x == y)) := ⟨_, op_ne, fun H F v u Q s qv qu q => by
 have e1 := qv.bl; have e2 := qu.bl
 subst e1; subst e2
 exact ⟨rfl, by rw [yak]; exact q⟩⟩
noncomputable def zxb : D -> Bool
 | .non => true
 | _ => false
theorem zxa {K : PySem.W.Frag} {F : Hp} {d : D} {v : V} (h : Den K F d v) : decide (v = V.non) = zxb d := by
 cases d with
 | non => rw [h.non]; rfl
 | bl b => rw [h.bl]; rfl
 | int i => rw [h.int]; rfl
 | tup l => refine x2_2 (h.tup) fun a xs e _ => ?_; rw [e]; rfl
 | lst l => refine x2_2 (h.lst) fun a xs e _ => ?_; rw [e]; rfl
 | exc x => refine x2_2 (h.exc) fun a C e _ => ?_; rw [e]; rfl
theorem yqc {x : D} : znf X .Is x .non (zxb x) := ⟨_, op_isN, fun H F v u Q s qv qu q => ⟨qu.non, by rw [zxa qv]; exact q⟩⟩
theorem ykb {x : D} : znf X .IsNot x .non (!zxb x) := ⟨_, yog, fun H F v u Q s qv qu q => ⟨qu.non, by rw [zxa qv]; exact q⟩⟩
noncomputable def ztf (X : Cx) (f : Value) (ds : List D) (w : W) : Prop := ∃ r, zvm X f r /\
 ∀ (H0 Fc H F : Hp) (σ : L2.St) (ρ : Rho) (vs : List V) (Q : VK), ER X.K H0 Fc F H σ ρ -> DenL X.K F ds vs -> (∀ v' H' F', Same F F' -> ER X.K H0 Fc F' H' σ ρ -> RW X.K H0 F' H' w v' -> Q v' H') -> r vs H Q
theorem DE.blt {x : Str} {id : String} {p : Pos} {ds : List D} (hc : ztf X (.builtin id) ds w) (hg : Gl X x) (hm : X.mg x = none) (hv : bootBuiltins x = some (.builtin id)) (hn : x ≠ "__name__") (hdb : (x == ("__debug__" : Str)) = false) (ha : DA X (e :: es) ρ ds) (hs : zki e = true) (hss : es.all zki = true) :
  DE X (.Call (.Name x p) (e :: es) [] pos) ρ w := fun H0 Fc => by
 refine x1_2 hc fun r hr hq => ?_; clear hc
 refine PE.mono (zzm hr hg hm hv (ha H0 Fc) hn hdb (zkm hs) (zmn hss)) fun σ H Q hz => x1_2 hz fun F R k => ⟨F, R, fun vs H1 F1 s1 R1 q1 => ?_⟩
 exact hq H0 Fc H1 F1 σ ρ vs Q R1 q1 fun v' H' F' s' R' q' => k v' H' F' (s1.trans s') R' q'
theorem DE.ty {x : Str} {id : String} {p : Pos} {ds : List D} (hc : ztf X (.type id) ds w) (hg : Gl X x) (hm : X.mg x = none) (hv : bootBuiltins x = some (.type id)) (hn : x ≠ "__name__") (hdb : (x == ("__debug__" : Str)) = false) (ha : DA X (e :: es) ρ ds) (hs : zki e = true) (hss : es.all zki = true) :
  DE X (.Call (.Name x p) (e :: es) [] pos) ρ w := fun H0 Fc => by
 refine x1_2 hc fun r hr hq => ?_; clear hc
 refine PE.mono (ydy hr hg hm hv (ha H0 Fc) hn hdb (zkm hs) (zmn hss)) fun σ H Q hz => x1_2 hz fun F R k => ⟨F, R, fun vs H1 F1 s1 R1 q1 => ?_⟩
 exact hq H0 Fc H1 F1 σ ρ vs Q R1 q1 fun v' H' F' s' R' q' => k v' H' F' (s1.trans s') R' q'
theorem DenL.one {K : PySem.W.Frag} {F : Hp} {d : D} {vs : List V} (h : DenL K F [d] vs) : ∃ v, vs = [v] /\ Den K F d v := by
 refine x2_3 (h.inv_cons) fun v r e q z => ?_
 rw [z.inv_nil] at e
 exact ⟨v, e, q⟩
theorem DenL.two {K : PySem.W.Frag} {F : Hp} {d d' : D} {vs : List V} (h : DenL K F [d, d'] vs) : ∃ v v', vs = [v, v'] /\ Den K F d v /\ Den K F d' v' := by
 refine x2_3 (h.inv_cons) fun v r e q z => ?_
 refine x1_2 (z.one) fun v' e' q' => ?_
 rw [e'] at e
 exact ⟨v, v', e, q, q'⟩
theorem yqo {i : Int} : ztf X (.builtin "abs") [.int i] (.val (.int (if i < 0 then -i else i))) := ⟨_, yke, fun H0 Fc H F σ ρ vs Q R q k => by
 refine x1_2 (q.one) fun v e q => ?_
 rw [q.int] at e
 exact ⟨i, e, k _ H F (Same.refl _) R RW.int⟩⟩
theorem yki {l : List D} : ztf X (.builtin "len") [.lst l] (.val (.int l.length)) := ⟨_, zqf, fun H0 Fc H F σ ρ vs Q R q k => by
 refine x1_2 (q.one) fun v e q => ?_
 refine x2_3 (q.lst) fun p xs e1 sq r => ?_
 rw [e1] at e
 exact ⟨p, xs, e, .inl (R.sub.seq sq), by rw [r.length]; exact k _ H F (Same.refl _) R RW.int⟩⟩
theorem ykh {l : List D} : ztf X (.builtin "len") [.tup l] (.val (.int l.length)) := ⟨_, zqf, fun H0 Fc H F σ ρ vs Q R q k => by
 refine x1_2 (q.one) fun v e q => ?_
 refine x2_3 (q.tup) fun p xs e1 sq r => ?_
 rw [e1] at e
 exact ⟨p, xs, e, .inr (Same.tup R.sub sq), by rw [r.length]; exact k _ H F (Same.refl _) R RW.int⟩⟩
end
end DL
namespace DL
open PySem L2 PyProof.Rows
mutual
noncomputable def lf : D -> Bool
 | .non => true
 | .bl _ => true
 | .int _ => true
 | .tup l => lfL l
 | .lst _ => false
 | .exc _ => false
noncomputable def lfL : List D -> Bool
 | [] => true
 | d :: l => lf d && lfL l
end
noncomputable def lfW : W -> Bool
 | .val d => lf d
 | .new l => lfL l
mutual
theorem Den.shrink {K : PySem.W.Frag} {F F' : Hp} (s : ∀ a xs, SqT K F a xs -> SqT K F' a xs) : ∀ (d : D) {v : V}, lf d = true -> Den K F d v -> Den K F' d v
 | .non, _, _, h => by simpa only [Den] using h
 | .bl _, _, _, h => by simpa only [Den] using h
 | .int _, _, _, h => by simpa only [Den] using h
 | .tup l, _, f, h => by
  refine x2_3 (h.tup) fun a xs e q r => ?_
  subst e
  exact Den.tup_mk (s _ _ q) (DenL.shrink s l (by simpa only [lf] using f) r)
 | .lst l, _, f, h => by simp only [lf] at f; cases f
 | .exc l, _, f, h => by simp only [lf] at f; cases f
theorem DenL.shrink {K : PySem.W.Frag} {F F' : Hp} (s : ∀ a xs, SqT K F a xs -> SqT K F' a xs) : ∀ (l : List D) {xs : List V}, lfL l = true -> DenL K F l xs -> DenL K F' l xs
 | [], _, _, h => by simpa only [DenL] using h
 | d :: l, _, f, h => by
  simp only [lfL, zaj] at f
  refine x2_3 (h.inv_cons) fun v vs e q r => ?_
  subst e
  exact DenL.cons (Den.shrink s d f.1 q) (DenL.shrink s l f.2 r)
end
inductive B where
 | sh (d : D) | ow (l : List D)
noncomputable def B.d : B -> D
 | .sh d => d
 | .ow l => .lst l
noncomputable def W.b : W -> B
 | .val d => .sh d
 | .new l => .ow l
noncomputable abbrev RhoS := List (Option B)
noncomputable def view (ρ : RhoS) : Rho := ρ.map (Option.map B.d)
noncomputable def frz (ρ : RhoS) : RhoS := ρ.map (Option.map fun b => .sh b.d)
theorem yhb {ρ : RhoS} {i : Nat} {d : D} (h : (view ρ)[i]? = some (some d)) : ∃ b, ρ[i]? = some (some b) /\ b.d = d := by
 unfold view at h
 rw [zak] at h
 cases q : ρ[i]? with
 | none => rw [q] at h; cases h
 | some o =>
  rw [q] at h
  cases o with
  | none => cases h
  | some b => exact ⟨b, rfl, by simpa using h⟩
theorem zuw {ρ : RhoS} {i : Nat} {b : B} (h : (frz ρ)[i]? = some (some b)) : ∃ c, ρ[i]? = some (some c) /\ b = .sh c.d := by
 unfold frz at h
 rw [zak] at h
 cases q : ρ[i]? with
 | none => rw [q] at h; cases h
 | some o =>
  rw [q] at h
  cases o with
  | none => cases h
  | some c => exact ⟨c, rfl, by simpa using h.symm⟩
structure SR (K : PySem.W.Frag) (H0 Fc F H : Hp) (σ : L2.St) (ρ : RhoS) : Prop where
 sub : Same F H
 same : Same H0 H
 base : Same Fc F
 new : ∀ a o, F a = some o -> Fc a = some o ∨ H0 a = none
 env : ∀ (i : Nat) d, ρ[i]? = some (some (.sh d)) -> ∃ v, σ[i]? = some (some v) /\ Den K F d v
 own : ∀ (i : Nat) l, ρ[i]? = some (some (.ow l)) -> ∃ a xs, σ[i]? = some (some (.ref a)) /\ F a = none /\ H0 a = none /\ H a = some (.lst xs) /\ DenL K F l xs
 dis : ∀ (i j : Nat) l m a, ρ[i]? = some (some (.ow l)) -> ρ[j]? = some (some (.ow m)) -> σ[i]? = some (some (.ref a)) -> σ[j]? = some (some (.ref a)) -> i = j
 len : σ.length = ρ.length
noncomputable def Owned (σ : L2.St) (ρ : RhoS) (a : Addr) : Prop := ∃ (i : Nat) (l : List D), ρ[i]? = some (some (.ow l)) /\ σ[i]? = some (some (.ref a))
section
variable {K : PySem.W.Frag} {H0 Fc F H : Hp} {σ : L2.St} {ρ : RhoS}
theorem SR.owned_none (S : SR K H0 Fc F H σ ρ) {a : Addr} (h : Owned σ ρ a) : F a = none /\ H0 a = none /\ ∃ xs, H a = some (.lst xs) := by
 refine x2_2 h fun i l h1 h2 => ?_; clear h
 refine x2_5 (S.own i l h1) fun b xs e p q r _ => ?_
 rw [h2] at e
 cases e
 exact ⟨p, q, xs, r⟩
open Classical in
noncomputable def borrow (F H : Hp) (σ : L2.St) (ρ : RhoS) : Hp := fun a => if Owned σ ρ a then H a else F a
open Classical in
theorem SR.borrow (S : SR K H0 Fc F H σ ρ) : Same F (borrow F H σ ρ) /\ ER K H0 Fc (borrow F H σ ρ) H σ (view ρ) := by
 have s : Same F (DL.borrow F H σ ρ) := fun a o e => by
  unfold DL.borrow
  rw [if_neg (fun z => by rw [(S.owned_none z).1] at e; cases e)]
  exact e
 refine ⟨s, ⟨fun a o e => ?_, S.same, S.base.trans s, fun a o e => ?_, fun i d e => ?_⟩⟩
 ·unfold DL.borrow at e
  by_cases hz : Owned σ ρ a
  ·rw [if_pos hz] at e; exact e
  ·rw [if_neg hz] at e; exact S.sub a o e
 ·unfold DL.borrow at e
  by_cases hz : Owned σ ρ a
  ·exact .inr (S.owned_none hz).2.1
  ·rw [if_neg hz] at e; exact S.new a o e
 ·refine x1_2 (yhb e) fun b h1 h2 => ?_
  subst h2
  cases b with
  | sh d =>
   refine x1_2 (S.env i d h1) fun v p q => ?_
   exact ⟨v, p, q.mono s⟩
  | ow l =>
   refine x2_5 (S.own i l h1) fun a xs p _ _ r q => ?_
   refine ⟨_, p, Den.lst_mk (SqL.of ?_) (q.mono s)⟩
   unfold DL.borrow
   rw [if_pos ⟨i, l, h1, p⟩]
   exact r
open Classical in
theorem SR.back (S : SR K H0 Fc F H σ ρ) {F2 H2 : Hp} {w : W} {v : V} (s : Same (DL.borrow F H σ ρ) F2) (R : ER K H0 Fc F2 H2 σ (view ρ)) (q : RW K H0 F2 H2 w v) (f : lfW w = true) :
  ∃ F3, Same F F3 /\ SR K H0 Fc F3 H2 σ ρ /\ RW K H0 F3 H2 w v := by
 have hown : ∀ {a}, Owned σ ρ a -> ∃ xs, F2 a = some (.lst xs) := fun {a} z => by
  refine xaaea (S.owned_none z) fun _ _ xs r => ?_
  exact ⟨xs, s a _ (by unfold DL.borrow; rw [if_pos z]; exact r)⟩
 have sF : Same F (fun a => if Owned σ ρ a then none else F2 a) := fun a o e => by
  have hz : ¬ Owned σ ρ a := fun z => by rw [(S.owned_none z).1] at e; cases e
  show (if Owned σ ρ a then none else F2 a) = some o
  rw [if_neg hz]
  exact s a o (S.borrow.1 a o e)
 have hsub : ∀ a o, (if Owned σ ρ a then none else F2 a) = some o -> F2 a = some o := fun a o e => by
  by_cases hz : Owned σ ρ a
  ·rw [if_pos hz] at e; cases e
  ·rw [if_neg hz] at e; exact e
 have tups : ∀ a xs, SqT K F2 a xs -> SqT K (fun a => if Owned σ ρ a then none else F2 a) a xs := fun a xs h => by
  rcases h with h | h
  ·refine .inl ?_
   have hz : ¬ Owned σ ρ a := fun z => by
    refine x1_1 (hown z) fun ys e => ?_
    rcases h with h | ⟨o, h⟩
    ·rw [e] at h; cases h
    ·rw [e] at h; cases h
   rcases h with h | ⟨o, h⟩
   ·exact .inl (by show (if Owned σ ρ a then none else F2 a) = _; rw [if_neg hz]; exact h)
   ·exact .inr ⟨o, by show (if Owned σ ρ a then none else F2 a) = _; rw [if_neg hz]; exact h⟩
  ·exact .inr h
 refine ⟨_, sF, ⟨fun a o e => R.sub a o (hsub a o e), R.same, S.base.trans sF, fun a o e => R.new a o (hsub a o e), fun i d e => ?_, fun i l e => ?_, S.dis, S.len⟩, ?_⟩
 ·refine x1_2 (S.env i d e) fun v p q => ?_
  exact ⟨v, p, q.mono sF⟩
 ·refine x2_5 (S.own i l e) fun a xs p p1 p2 p3 p4 => ?_
  have hz : Owned σ ρ a := ⟨i, l, e, p⟩
  refine ⟨a, xs, p, if_pos hz, p2, ?_, p4.mono sF⟩
  exact R.sub _ _ (s a _ (by unfold DL.borrow; rw [if_pos hz]; exact p3))
 ·cases w with
  | val d => exact Den.shrink tups d f q
  | new l =>
   refine x2_5 q fun a xs e p1 p2 p3 p4 => ?_; clear q
   subst e
   refine RW.n ?_ p2 p3 (DenL.shrink tups l f p4)
   by_cases hz : Owned σ ρ a
   ·exact if_pos hz
   ·exact (if_neg hz).trans p1
theorem SR.freeze (S : SR K H0 Fc F H σ ρ) {F2 H2 : Hp} (s : Same (DL.borrow F H σ ρ) F2) (R : ER K H0 Fc F2 H2 σ (view ρ)) : Same F F2 /\ SR K H0 Fc F2 H2 σ (frz ρ) := by
 refine ⟨S.borrow.1.trans s, R.sub, R.same, R.base, R.new, fun i d e => ?_, fun i l e => ?_, fun i j l m a e => ?_, ?_⟩
 ·refine x1_2 (zuw e) fun c h1 h2 => ?_
  cases h2
  refine R.env i c.d ?_
  unfold view
  rw [zak, h1]; rfl
 ·refine x1_2 (zuw e) fun c h1 h2 => ?_
  cases h2
 ·refine x1_2 (zuw e) fun c h1 h2 => ?_
  cases h2
 ·rw [S.len]; unfold frz; rw [zad]
noncomputable def after (w : W) (ρ : RhoS) : RhoS := if lfW w = true then ρ else frz ρ
theorem SR.after (S : SR K H0 Fc F H σ ρ) {F2 H2 : Hp} {w : W} {v : V} (s : Same (DL.borrow F H σ ρ) F2) (R : ER K H0 Fc F2 H2 σ (view ρ)) (q : RW K H0 F2 H2 w v) :
  ∃ F3, Same F F3 /\ SR K H0 Fc F3 H2 σ (DL.after w ρ) /\ RW K H0 F3 H2 w v := by
 unfold DL.after
 by_cases f : lfW w = true
 ·rw [if_pos f]; exact S.back s R q f
 ·rw [if_neg f]
  refine x0_2 (S.freeze s R) fun a b => ?_
  exact ⟨F2, a, b, q⟩
theorem SR.bind (S : SR K H0 Fc F H σ ρ) {i : Nat} {w : W} {v : V} (q : RW K H0 F H w v) (hi : i < ρ.length) (hd : ∀ l, w = .new l -> ∀ a, v = .ref a -> ¬ Owned σ ρ a) : SR K H0 Fc F H (σ.set i (some v)) (ρ.set i (some w.b)) := by
 have hiσ : i < σ.length := by rw [S.len]; exact hi
 have gs : (σ.set i (some v))[i]? = some (some v) := by rw [zbx hiσ]
 have gr : (ρ.set i (some w.b))[i]? = some (some w.b) := by rw [zbx hi]
 have ns : ∀ {j}, j ≠ i -> (σ.set i (some v))[j]? = σ[j]? := fun h => zbm (zda h)
 have nr : ∀ {j}, j ≠ i -> (ρ.set i (some w.b))[j]? = ρ[j]? := fun h => zbm (zda h)
 refine ⟨S.sub, S.same, S.base, S.new, fun j d e => ?_, fun j l e => ?_, fun j k l m a e1 e2 e3 e4 => ?_, by rw [zcd, zcd]; exact S.len⟩
 ·by_cases hj : j = i
  ·subst hj
   rw [gr] at e
   refine ⟨v, gs, ?_⟩
   cases w with
   | val d' => cases e; exact q
   | new l => cases e
  ·rw [nr hj] at e
   rw [ns hj]
   exact S.env j d e
 ·by_cases hj : j = i
  ·subst hj
   rw [gr] at e
   cases w with
   | val d' => cases e
   | new l' =>
    cases e
    refine x2_5 q fun a xs e1 p1 p2 p3 p4 => ?_; clear q
    subst e1
    exact ⟨a, xs, gs, p1, p2, p3, p4⟩
  ·rw [nr hj] at e
   rw [ns hj]
   exact S.own j l e
 ·by_cases hj : j = i
  ·by_cases hk : k = i
   ·rw [hj, hk]
   ·subst hj
    rw [gr] at e1
    rw [gs] at e3
    rw [nr hk] at e2
    rw [ns hk] at e4
    cases w with
    | val d' => cases e1
    | new l' => cases e3; exact absurd ⟨k, m, e2, e4⟩ (hd l' rfl a rfl)
  ·by_cases hk : k = i
   ·subst hk
    rw [gr] at e2
    rw [gs] at e4
    rw [nr hj] at e1
    rw [ns hj] at e3
    cases w with
    | val d' => cases e2
    | new l' => cases e4; exact absurd ⟨j, l, e1, e3⟩ (hd l' rfl a rfl)
   ·rw [nr hj] at e1
    rw [ns hj] at e3
    rw [nr hk] at e2
    rw [ns hk] at e4
    exact S.dis j k l m a e1 e2 e3 e4
theorem Owned.not_after (S : SR K H0 Fc F H σ ρ) {F2 H2 : Hp} {w : W} {v : V} (s : Same (DL.borrow F H σ ρ) F2) (q : RW K H0 F2 H2 w v) : ∀ l, w = .new l -> ∀ a, v = .ref a -> ¬ Owned σ (DL.after w ρ) a := fun l e a ev z => by
 subst e
 refine x2_3 q fun b xs e1 p1 _ => ?_; clear q
 rw [ev] at e1
 cases e1
 refine x2_2 z fun i m h1 h2 => ?_; clear z
 unfold DL.after at h1
 by_cases f : lfW (.new l) = true
 ·rw [if_pos f] at h1
  have hz : Owned σ ρ a := ⟨i, m, h1, h2⟩
  refine xaaea (S.owned_none hz) fun _ _ ys r => ?_
  have := s a _ (by unfold DL.borrow; rw [if_pos hz]; exact r)
  rw [p1] at this; cases this
 ·rw [if_neg f] at h1
  refine x1_2 (zuw h1) fun c _ h => ?_
  cases h
theorem SR.mut (S : SR K H0 Fc F H σ ρ) {i : Nat} {l m : List D} {a : Addr} {ys : List V} (h : ρ[i]? = some (some (.ow l))) (ha : σ[i]? = some (some (.ref a))) (q : DenL K F m ys) : SR K H0 Fc F (upd H a (.lst ys)) σ (ρ.set i (some (.ow m))) := by
 have hz : Owned σ ρ a := ⟨i, l, h, ha⟩
 refine xaaea (S.owned_none hz) fun hF h0 xs hH => ?_
 have hi : i < ρ.length := (zal.mp h).1
 have gr : (ρ.set i (some (.ow m)))[i]? = some (some (.ow m)) := by rw [zbx hi]
 have nr : ∀ {j}, j ≠ i -> (ρ.set i (some (.ow m)))[j]? = ρ[j]? := fun h => zbm (zda h)
 have ow : ∀ {j : Nat} {k : List D}, (ρ.set i (some (B.ow m)))[j]? = some (some (B.ow k)) -> ∃ k' : List D, ρ[j]? = some (some (B.ow k')) := fun {j k} e => by
  by_cases hj : j = i
  ·subst hj; exact ⟨l, h⟩
  ·rw [nr hj] at e; exact ⟨k, e⟩
 refine ⟨fun b o e => ?_, fun b o e => ?_, S.base, S.new, fun j d e => ?_, fun j k e => ?_, fun j k p q' b e1 e2 e3 e4 => ?_, by rw [zcd]; exact S.len⟩
 ·rw [zkp (fun z => by subst z; rw [hF] at e; cases e)]; exact S.sub b o e
 ·rw [zkp (fun z => by subst z; rw [h0] at e; cases e)]; exact S.same b o e
 ·by_cases hj : j = i
  ·subst hj; rw [gr] at e; cases e
  ·rw [nr hj] at e; exact S.env j d e
 ·by_cases hj : j = i
  ·subst hj
   rw [gr] at e
   cases e
   exact ⟨a, ys, ha, hF, h0, zko, q⟩
  ·rw [nr hj] at e
   refine x2_5 (S.own j k e) fun b zs p p1 p2 p3 p4 => ?_
   refine ⟨b, zs, p, p1, p2, ?_, p4⟩
   rw [zkp (fun z => by subst z; exact hj (S.dis j i k l b e h p ha))]
   exact p3
 ·refine x1_1 (ow e1) fun k1 f1 => ?_
  refine x1_1 (ow e2) fun k2 f2 => ?_
  exact S.dis j k k1 k2 b f1 f2 e3 e4
end
inductive Out where
 | nx (ρ : RhoS) | rt (w : W)
structure RT (H0 Fc F H : Hp) : Prop where
 sub : Same F H
 same : Same H0 H
 base : Same Fc F
 new : ∀ a o, F a = some o -> Fc a = some o ∨ H0 a = none
noncomputable def tS (K : PySem.W.Frag) (H0 Fc : Hp) (ρ : RhoS) (o : Out) : TS := fun D σ H => ∃ F, SR K H0 Fc F H σ ρ /\ match o with
 | .nx ρ' => ∀ σ' H' F', Same F F' -> SR K H0 Fc F' H' σ' ρ' -> D.nx σ' H'
 | .rt w => ∀ v H' F', RT H0 Fc F' H' -> RW K H0 F' H' w v -> D.rt v H'
noncomputable def DS (X : Cx) (s : Stmt) (ρ : RhoS) (o : Out) : Prop := ∀ H0 Fc, PS X s (tS X.K H0 Fc ρ o)
noncomputable def DSs (X : Cx) (s : List Stmt) (ρ : RhoS) (o : Out) : Prop := ∀ H0 Fc, PSs X s (tS X.K H0 Fc ρ o)
section
variable {X : Cx} {st : Stmt} {rest : List Stmt} {ρ ρ' : RhoS} {o : Out} {w : W} {e : Expr} {pos : Pos}
theorem DSs.nil : DSs X [] ρ (.nx ρ) := fun H0 Fc => PSs.mono ynt fun D σ H hz => x1_2 hz fun F S k => k σ H F (Same.refl _) S
theorem DSs.next (h1 : DS X st ρ (.nx ρ')) (h2 : DSs X rest ρ' o) : DSs X (st :: rest) ρ o := fun H0 Fc => PSs.mono (zzg (h1 H0 Fc) (h2 H0 Fc)) fun D σ H hz => x1_2 hz fun F S k =>
 ⟨F, S, fun σ' H' F' s' S' => ⟨F', S', by
  cases o with
  | nx ρ2 => exact fun σ2 H2 F2 s2 S2 => k σ2 H2 F2 (s'.trans s2) S2
  | rt w => exact k⟩⟩
theorem DSs.ret (h1 : DS X st ρ (.rt w)) : DSs X (st :: rest) ρ (.rt w) := fun H0 Fc => PSs.mono (zzg (h1 H0 Fc) zrx) fun D σ H hz => x1_2 hz fun F S k => ⟨F, S, k⟩
theorem DS.asg {i : Nat} {x : Str} {pos' : Pos} (hN : X.N.Nodup) (hi : X.N[i]? = some x) (hx : Loc X.env.scope x) (hf : X.fn x = true ∨ X.env.scope.names.lookup x = some .local) (hs : swapsWith e (some (.Name x pos')) pos.line X.env = pure false) (hl : i < ρ.length)
  (he : DE X e (view ρ) w) : DS X (.Assign [.Name x pos'] e pos) ρ (.nx ((after w ρ).set i (some w.b))) := fun H0 Fc => PS.mono (ps_set hN hi hx (he H0 Fc) hs hf) fun D σ H hz => x1_2 hz fun F S k => by
 refine x0_2 (S.borrow) fun s0 R => ?_
 refine ⟨_, R, fun v H2 F2 s2 R2 q => ?_⟩
 refine x1_3 (S.after s2 R2 q) fun F3 s3 S3 q3 => ?_
 refine k _ H2 F3 s3 (S3.bind q3 ?_ (Owned.not_after S s2 q))
 rw [<- S3.len, S.len]; exact hl
theorem DS.ret (he : DE X e (view ρ) w) : DS X (.Return (some e) pos) ρ (.rt w) := fun H0 Fc => PS.mono (ylg (he H0 Fc)) fun D σ H hz => x1_2 hz fun F S k => by
 refine x0_2 (S.borrow) fun s0 R => ?_
 exact ⟨_, R, fun v H2 F2 s2 R2 q => k v H2 F2 ⟨R2.sub, R2.same, R2.base, R2.new⟩ q⟩
theorem DS.retOwn {i : Nat} {x : Str} {l : List D} {p : Pos} (hN : X.N[i]? = some x) (hv : Vis X.env.scope x) (hd : (x == ("__debug__" : Str)) = false) (hcd : (x == ("__classdict__" : Str)) = false) (hr : ρ[i]? = some (some (.ow l))) :
  DS X (.Return (some (.Name x p)) pos) ρ (.rt (.new l)) := fun H0 Fc => PS.mono (ylg (zpz hN hv hd hcd)) fun D σ H hz => x1_2 hz fun F S k => by
 refine x2_5 (S.own i l hr) fun a xs p p1 p2 p3 p4 => ?_
 exact ⟨_, p, k _ H F ⟨S.sub, S.same, S.base, S.new⟩ (RW.n p1 p2 p3 p4)⟩
theorem SR.tested {K : PySem.W.Frag} {H0 Fc F H : Hp} {σ : L2.St} (S : SR K H0 Fc F H σ ρ) {F2 H2 : Hp} (s : Same (DL.borrow F H σ ρ) F2) (R : ER K H0 Fc F2 H2 σ (view ρ)) : ∃ F3, Same F F3 /\ SR K H0 Fc F3 H2 σ ρ := by
 refine x1_3 (S.back (w := .val .non) (v := .non) s R (RW.v Den.non_mk) rfl) fun F3 a b _ => ?_
 exact ⟨F3, a, b⟩
theorem tS.pre {K : PySem.W.Frag} {H0 Fc F F3 H H2 : Hp} {σ : L2.St} {ρ2 : RhoS} {D : Ends} (s : Same F F3) (S3 : SR K H0 Fc F3 H2 σ ρ2)
  (k : match o with | .nx ρ' => ∀ σ' H' F', Same F F' -> SR K H0 Fc F' H' σ' ρ' -> D.nx σ' H' | .rt w => ∀ v H' F', RT H0 Fc F' H' -> RW K H0 F' H' w v -> D.rt v H') : tS K H0 Fc ρ2 o D σ H2 := ⟨F3, S3, by
 cases o with
 | nx ρ' => exact fun σ' H' F' s' S' => k σ' H' F' (s.trans s') S'
 | rt w => exact k⟩
theorem DS.ifT {c : Expr} {a b : List Stmt} (hc : DT X c (view ρ) true) (ha : DSs X a ρ o) : DS X (.If c a b pos) ρ o := fun H0 Fc => PS.mono (ps_if (hc H0 Fc) (ha H0 Fc) zrx) fun D σ H hz => x1_2 hz fun F S k => by
 refine x0_2 (S.borrow) fun s0 R => ?_
 refine ⟨_, R, fun H2 F2 s2 R2 => iteT ?_⟩
 refine x1_2 (S.tested s2 R2) fun F3 s3 S3 => ?_
 exact tS.pre (H := H) s3 S3 k
theorem DS.ifF {c : Expr} {a b : List Stmt} (hc : DT X c (view ρ) false) (hb : DSs X b ρ o) : DS X (.If c a b pos) ρ o := fun H0 Fc => PS.mono (ps_if (hc H0 Fc) zrx (hb H0 Fc)) fun D σ H hz => x1_2 hz fun F S k => by
 refine x0_2 (S.borrow) fun s0 R => ?_
 refine ⟨_, R, fun H2 F2 s2 R2 => iteF ?_⟩
 refine x1_2 (S.tested s2 R2) fun F3 s3 S3 => ?_
 exact tS.pre (H := H) s3 S3 k
noncomputable def zky (c : RhoS -> Option Bool) (b : RhoS -> Option Out) : Nat -> RhoS -> Option Out
 | 0, _ => none
 | n + 1, ρ => match c ρ with
  | none => none
  | some false => some (.nx ρ)
  | some true => match b ρ with
   | none => none
   | some (.rt w) => some (.rt w)
   | some (.nx ρ') => zky c b n ρ'
theorem DS.while_ {c : Expr} {body : List Stmt} {fc : RhoS -> Option Bool} {fb : RhoS -> Option Out} {n : Nat} (hp : PassesOwn (model X.prog X.w) X.A X.env X.xe) (hc : ∀ ρ k, fc ρ = some k -> DT X c (view ρ) k) (hb : ∀ ρ o, fb ρ = some o -> DSs X body ρ o)
  (hw : zky fc fb n ρ = some o) : DS X (.While c body [] pos) ρ o := fun H0 Fc => by
 have pc : PT X c (fun σ H Q => ∃ ρ k, fc ρ = some k /\ tDT X.K H0 Fc (view ρ) k σ H Q) := fun pins s σ H Q I hz => x2_2 hz fun ρ k h q => hc ρ k h H0 Fc pins s σ H Q I q
 have pb : PSs X body (fun D σ H => ∃ ρ o, fb ρ = some o /\ tS X.K H0 Fc ρ o D σ H) := fun pins s σ H D I hz => x2_2 hz fun ρ o h q => hb ρ o h H0 Fc pins s σ H D I q
 refine PS.mono (yii hp pc pb) fun D σ H hz => x1_2 hz fun F S k => ?_
 refine ⟨fun m σ' H' => ∃ ρ' F', Same F F' /\ SR X.K H0 Fc F' H' σ' ρ' /\ zky fc fb m ρ' = some o, ⟨n, ρ, F, Same.refl _, S, hw⟩, ?_⟩
 rintro m σ1 H1 ⟨ρ1, F1, s1, S1, h1⟩
 cases m with
 | zero => cases h1
 | succ m =>
  unfold zky at h1
  cases e : fc ρ1 with
  | none => rw [e] at h1; cases h1
  | some kk =>
   rw [e] at h1
   refine x0_2 (S1.borrow) fun s0 R => ?_
   refine ⟨ρ1, kk, e, _, R, fun H2 F2 s2 R2 => ?_⟩
   refine x1_2 (S1.tested s2 R2) fun F3 s3 S3 => ?_
   cases kk with
   | false =>
    refine iteF ?_
    cases h1
    exact k σ1 H2 F3 (s1.trans s3) S3
   | true =>
    refine iteT ?_
    cases e2 : fb ρ1 with
    | none => simp only [e2] at h1; cases h1
    | some o2 =>
     simp only [e2] at h1
     cases o2 with
     | rt w =>
      cases h1
      exact ⟨fun _ _ => False, fun _ _ z => z.elim, ρ1, _, e2, F3, S3, k⟩
     | nx ρ2 =>
      refine ⟨fun σ' H' => ∃ F', Same F F' /\ SR X.K H0 Fc F' H' σ' ρ2, fun σ' H' hz => x1_2 hz fun F' s' S' => ⟨m, zhj _, ρ2, F', s', S', h1⟩, ρ1, _, e2, F3, S3, ?_⟩
      exact fun σ' H' F' s' S' => ⟨F', (s1.trans s3).trans s', S'⟩
end
end DL
namespace DL
open PySem L2 PyProof.Rows
section
variable {K : PySem.W.Frag} {H0 Fc F H : Hp} {σ : L2.St} {ρ : RhoS}
theorem SR.lay (S : SR K H0 Fc F H σ ρ) {a : Addr} (o : HO) (hn : H a = none) : SR K H0 Fc (upd F a o) (upd H a o) σ ρ /\ Same F (upd F a o) := by
 have hF : F a = none := by
  cases q : F a with
  | none => rfl
  | some u => rw [S.sub a u q] at hn; cases hn
 have h0 : H0 a = none := S.same.free hn
 have sF := zmt (o := o) hF
 refine ⟨⟨fun b u e => ?_, S.same.trans (zmt hn), S.base.trans sF, fun b u e => ?_, fun i d e => ?_, fun i l e => ?_, S.dis, S.len⟩, sF⟩
 ·by_cases hb : b = a
  ·subst hb; rw [zko] at e ⊢; exact e
  ·rw [zkp hb] at e ⊢; exact S.sub b u e
 ·by_cases hb : b = a
  ·subst hb; exact .inr h0
  ·rw [zkp hb] at e; exact S.new b u e
 ·refine x1_2 (S.env i d e) fun v h1 h2 => ?_
  exact ⟨v, h1, h2.mono sF⟩
 ·refine x2_5 (S.own i l e) fun b xs p p1 p2 p3 p4 => ?_
  have hb : b ≠ a := fun z => by subst z; rw [p3] at hn; cases hn
  exact ⟨b, xs, p, by rw [zkp hb]; exact p1, p2, by rw [zkp hb]; exact p3, p4.mono sF⟩
theorem SR.frz1 (S : SR K H0 Fc F H σ ρ) {a : Addr} {xs : List V} (hF : F a = none) (h0 : H0 a = none) (hH : H a = some (.lst xs)) (no : ¬ Owned σ ρ a) : SR K H0 Fc (upd F a (.lst xs)) H σ ρ /\ Same F (upd F a (.lst xs)) := by
 have sF := zmt (o := .lst xs) hF
 refine ⟨⟨fun b u e => ?_, S.same, S.base.trans sF, fun b u e => ?_, fun i d e => ?_, fun i l e => ?_, S.dis, S.len⟩, sF⟩
 ·by_cases hb : b = a
  ·subst hb; rw [zko] at e; cases e; exact hH
  ·rw [zkp hb] at e; exact S.sub b u e
 ·by_cases hb : b = a
  ·subst hb; exact .inr h0
  ·rw [zkp hb] at e; exact S.new b u e
 ·refine x1_2 (S.env i d e) fun v h1 h2 => ?_
  exact ⟨v, h1, h2.mono sF⟩
 ·refine x2_5 (S.own i l e) fun b ys p p1 p2 p3 p4 => ?_
  have hb : b ≠ a := fun z => by subst z; exact no ⟨i, l, e, p⟩
  exact ⟨b, ys, p, by rw [zkp hb]; exact p1, p2, p3, p4.mono sF⟩
theorem SR.afterF (S : SR K H0 Fc F H σ ρ) {F2 H2 : Hp} {w : W} {v : V} (s : Same (DL.borrow F H σ ρ) F2) (R : ER K H0 Fc F2 H2 σ (view ρ)) (q : RW K H0 F2 H2 w v) :
  ∃ F3, Same F F3 /\ SR K H0 Fc F3 H2 σ (DL.after w ρ) /\ Den K F3 w.d v := by
 have no := Owned.not_after S s q
 refine x1_3 (S.after s R q) fun F3 s3 S3 q3 => ?_
 cases w with
 | val d => exact ⟨F3, s3, S3, q3⟩
 | new l =>
  refine x2_5 q3 fun a xs e p1 p2 p3 p4 => ?_; clear q3
  subst e
  refine x0_2 (S3.frz1 p1 p2 p3 (no l rfl a rfl)) fun S4 s4 => ?_
  exact ⟨_, s3.trans s4, S4, Den.lst_mk (SqL.of zko) (p4.mono s4)⟩
end
theorem PG.mono {X : Cx} {tg : Expr} {t t' : TG} (h : PG X tg t) (k : ∀ v σ H Q, t' v σ H Q -> t v σ H Q) : PG X tg t' := fun pins s σ H v u Q I r q => h pins s σ H v u Q I r (k v σ H Q q)
theorem PGs.mono {X : Cx} {tg : List Expr} {t t' : TGs} (h : PGs X tg t) (k : ∀ v σ H Q, t' v σ H Q -> t v σ H Q) : PGs X tg t' := fun pins s σ H v u Q I r q => h pins s σ H v u Q I r (k v σ H Q q)
theorem PI.mono {X : Cx} {tg it : Expr} {t t' : TI} (h : PI X tg it t) (k : ∀ σ H R, t' σ H R -> t σ H R) : PI X tg it t' := fun pins s σ H R I q => h pins s σ H R I (k σ H R q)
noncomputable def DG (X : Cx) (tg : Expr) (d : D) (ρ ρ' : RhoS) : Prop := ∀ H0 Fc, PG X tg (fun v σ H Q => ∃ F, SR X.K H0 Fc F H σ ρ /\ Den X.K F d v /\ ∀ σ', SR X.K H0 Fc F H σ' ρ' -> Q σ' H)
noncomputable def DGs (X : Cx) (tg : List Expr) (ds : List D) (ρ ρ' : RhoS) : Prop := ∀ H0 Fc, PGs X tg (fun vs σ H Q => ∃ F, SR X.K H0 Fc F H σ ρ /\ DenL X.K F ds vs /\ ∀ σ', SR X.K H0 Fc F H σ' ρ' -> Q σ' H)
section
variable {X : Cx} {st : Stmt} {rest : List Stmt} {ρ ρ' ρ2 : RhoS} {o : Out} {w : W} {e t : Expr} {ts es : List Expr} {pos : Pos} {d : D} {ds : List D}
theorem SR.bindS {K : PySem.W.Frag} {H0 Fc F H : Hp} {σ : L2.St} (S : SR K H0 Fc F H σ ρ) {i : Nat} {v : V} (q : Den K F d v) (hi : i < ρ.length) : SR K H0 Fc F H (σ.set i (some v)) (ρ.set i (some (.sh d))) :=
 S.bind (w := .val d) (RW.v q) hi fun l e => by cases e
theorem DG.name {i : Nat} {x : Str} (hN : X.N.Nodup) (hi : X.N[i]? = some x) (hx : Loc X.env.scope x) (hf : X.fn x = true ∨ X.env.scope.names.lookup x = some .local) (hl : i < ρ.length) : DG X (.Name x pos) d ρ (ρ.set i (some (.sh d))) := fun H0 Fc =>
 PG.mono (ydx hN hi hx hf) fun v σ H Q hz => x1_3 hz fun F S q k => k _ (S.bindS q hl)
theorem DGs.nil : DGs X [] [] ρ ρ := fun H0 Fc => PGs.mono ydw fun vs σ H Q hz => x1_3 hz fun F S q k => ⟨q.inv_nil, k σ S⟩
theorem zlt {env : Env} (h : zki t = true) : assignEach (t :: ts) env = (false, assign t env) :: assignEach ts env := by
 cases t <;> first | rfl | (cases h; done)
theorem zkv {env : Env} : ∀ {ts : List Expr}, ts.all zki = true -> (assignEach ts env).length = ts.length /\ (assignEach ts env).findIdx? (·.1) = none
 | [], _ => ⟨rfl, rfl⟩
 | t :: ts, h => by
  rw [zdk, zaj] at h
  refine x0_2 (zkv (env := env) h.2) fun a b => ?_
  rw [zlt h.1]
  refine ⟨by rw [zah, a, zah], ?_⟩
  rw [List.findIdx?_cons, b]
  rfl
theorem DGs.cons (h1 : DG X t d ρ ρ') (h2 : DGs X ts ds ρ' ρ2) (hs : zki t = true) : DGs X (t :: ts) (d :: ds) ρ ρ2 := fun H0 Fc =>
 PGs.mono (zzk (h1 H0 Fc) (h2 H0 Fc) (by rw [zlt hs]; rfl)) fun vs σ H Q hz => x1_3 hz fun F S q k => by
  refine x2_3 (q.inv_cons) fun v r e q1 q2 => ?_
  exact ⟨v, r, e, F, S, q1, fun σ' S' => ⟨F, S', q2, k⟩⟩
theorem DG.tup {k} (hc : X.calm = true) (h : DGs X ts ds ρ ρ') (hs : ts.all zki = true) (hl : ds.length = ts.length) : DG X (.Tuple ts k pos) (.tup ds) ρ ρ' := fun H0 Fc =>
 PG.mono (yli (n := ts.length) hc (h H0 Fc) (zkv hs).1 (zkv hs).2) fun v σ H Q hz => x1_3 hz fun F S q k => by
  refine x2_3 (q.tup) fun a xs e sq r => ?_
  exact ⟨a, xs, e, Same.tup S.sub sq, by rw [r.length]; exact hl, F, S, r, k⟩
theorem DS.asgT (he : DE X e (view ρ) w) (hg : DG X t w.d (after w ρ) ρ') (hs : swapsWithSole [t] e pos.line X.env = pure false) (hw : swappedStores [t] e X.env = pure none) (hst : zki t = true) : DS X (.Assign [t] e pos) ρ (.nx ρ') := fun H0 Fc =>
 PS.mono (ylh (he H0 Fc) (hg H0 Fc) hs hw (by rw [zlt hst]; rfl)) fun D σ H hz => x1_2 hz fun F S k => by
  refine x0_2 (S.borrow) fun s0 R => ?_
  refine ⟨_, R, fun v H2 F2 s2 R2 q => ?_⟩
  refine x1_3 (S.afterF s2 R2 q) fun F3 s3 S3 q3 => ?_
  exact ⟨F3, S3, q3, fun σ' S' => k σ' H2 F3 s3 S'⟩
theorem you {K : PySem.W.Frag} {H0 Fc F H : Hp} {σ : L2.St} (S : SR K H0 Fc F H σ ρ) {F2 H2 : Hp} {vs : List V} (s : Same (DL.borrow F H σ ρ) F2) (R : ER K H0 Fc F2 H2 σ (view ρ)) (q : DenL K F2 ds vs) (f : lfL ds = true) :
  ∃ F3, Same F F3 /\ SR K H0 Fc F3 H2 σ ρ /\ DenL K F3 ds vs := by
 induction ds generalizing vs with
 | nil =>
  refine x1_2 (S.tested s R) fun F3 a b => ?_
  rw [q.inv_nil]
  exact ⟨F3, a, b, DenL.nil⟩
 | cons d ds ih =>
  classical
  have key : ∀ (d : D) (v : V), lf d = true -> Den K F2 d v -> Den K (fun a => if Owned σ ρ a then none else F2 a) d v := fun d v f q => by
   have tups : ∀ a xs, SqT K F2 a xs -> SqT K (fun a => if Owned σ ρ a then none else F2 a) a xs := fun a xs h => by
    rcases h with h | h
    ·refine .inl ?_
     have hz : ¬ Owned σ ρ a := fun z => by
      refine xaaea (S.owned_none z) fun _ _ ys r => ?_
      have e := s a _ (by unfold DL.borrow; rw [if_pos z]; exact r)
      rcases h with h | ⟨o, h⟩
      ·rw [e] at h; cases h
      ·rw [e] at h; cases h
     rcases h with h | ⟨o, h⟩
     ·exact .inl (by show (if Owned σ ρ a then none else F2 a) = _; rw [if_neg hz]; exact h)
     ·exact .inr ⟨o, by show (if Owned σ ρ a then none else F2 a) = _; rw [if_neg hz]; exact h⟩
    ·exact .inr h
   exact Den.shrink tups d f q
  have keyL : ∀ (l : List D) (xs : List V), lfL l = true -> DenL K F2 l xs -> DenL K (fun a => if Owned σ ρ a then none else F2 a) l xs := fun l => by
   induction l with
   | nil => intro xs _ q; rw [q.inv_nil]; exact DenL.nil
   | cons d l ih2 =>
    intro xs f q
    simp only [lfL, zaj] at f
    refine x2_3 (q.inv_cons) fun v vs e q1 q2 => ?_
    subst e
    exact DenL.cons (key d v f.1 q1) (ih2 vs f.2 q2)
  have sF : Same F (fun a => if Owned σ ρ a then none else F2 a) := fun a o e => by
   have hz : ¬ Owned σ ρ a := fun z => by rw [(S.owned_none z).1] at e; cases e
   show (if Owned σ ρ a then none else F2 a) = some o
   rw [if_neg hz]
   exact s a o (S.borrow.1 a o e)
  have hsub : ∀ a o, (if Owned σ ρ a then none else F2 a) = some o -> F2 a = some o := fun a o e => by
   by_cases hz : Owned σ ρ a
   ·rw [if_pos hz] at e; cases e
   ·rw [if_neg hz] at e; exact e
  refine ⟨_, sF, ⟨fun a o e => R.sub a o (hsub a o e), R.same, S.base.trans sF, fun a o e => R.new a o (hsub a o e), fun i d e => ?_, fun i l e => ?_, S.dis, S.len⟩, keyL _ _ f q⟩
  ·refine x1_2 (S.env i d e) fun v p q => ?_
   exact ⟨v, p, q.mono sF⟩
  ·refine x2_5 (S.own i l e) fun a xs p p1 p2 p3 p4 => ?_
   have hz : Owned σ ρ a := ⟨i, l, e, p⟩
   refine ⟨a, xs, p, if_pos hz, p2, ?_, p4.mono sF⟩
   exact R.sub _ _ (s a _ (by unfold DL.borrow; rw [if_pos hz]; exact p3))
theorem DS.par {i j : Nat} {x y : Str} {a b : Expr} {px py pt : Pos} {kt k2 pt2} {d1 d2 : D} (hc : X.calm = true) (hN : X.N.Nodup) (hi : X.N[i]? = some x) (hj : X.N[j]? = some y) (hij : i ≠ j)
  (hx : X.env.scope.names.lookup x = some .local) (hy : X.env.scope.names.lookup y = some .local) (ha : DA X [a, b] (view ρ) [d1, d2]) (hil : i < ρ.length) (hjl : j < ρ.length) (f1 : lf d1 = true) (f2 : lf d2 = true)
  (hw : swappedStores [.Tuple [.Name x px, .Name y py] kt pt] (.Tuple [a, b] k2 pt2) X.env = pure (some [x, y])) :
  DS X (.Assign [.Tuple [.Name x px, .Name y py] kt pt] (.Tuple [a, b] k2 pt2) pos) ρ (.nx ((ρ.set i (some (.sh d1))).set j (some (.sh d2)))) := fun H0 Fc =>
 PS.mono (ps_par hc hN hi hj hij hx hy (ha H0 Fc) hw (by rfl)) fun D σ H hz => x1_2 hz fun F S k => by
  refine x0_2 (S.borrow) fun s0 R => ?_
  refine ⟨_, R, fun vs H2 F2 s2 R2 q => ?_⟩
  refine x1_3 (you S s2 R2 q (by simp [lfL, f1, f2])) fun F3 s3 S3 q3 => ?_
  refine x2_3 (q3.two) fun v u e q1 q2 => ?_
  refine ⟨v, u, e, k _ H2 F3 s3 ((S3.bindS q1 hil).bindS q2 (by rw [zcd]; exact hjl))⟩
noncomputable def Yields (K : PySem.W.Frag) (F H : Hp) (d : D) (x : V) (H' : Hp) : Prop := (H' = H /\ Den K F d x) ∨ ∃ p xs ds, H p = none /\ H' = upd H p (.tup xs) /\ x = .ref p /\ d = .tup ds /\ DenL K F ds xs
noncomputable def Walks (K : PySem.W.Frag) (F : Hp) (J : It) (items : List D) : Prop := ∀ i H, Same F H -> (∀ d, items[i]? = some d -> J.go i H /\ ∀ x H', J.yld i H x H' -> Yields K F H d x H') /\ (items.length <= i -> J.stop i H)
noncomputable def DI (X : Cx) (tg iter : Expr) (ρ : RhoS) (items : List D) (ρ' : RhoS) : Prop := ∀ H0 Fc, PI X tg iter (fun σ H R => ∃ F, SR X.K H0 Fc F H σ ρ /\ ∀ J H' F', Same F F' -> SR X.K H0 Fc F' H' σ ρ' -> Walks X.K F' J items -> R J H')
noncomputable def forN (bt : D -> RhoS -> Option RhoS) (b : RhoS -> Option Out) : List D -> RhoS -> Option Out
 | [], ρ => some (.nx ρ)
 | d :: l, ρ => match bt d ρ with
  | none => none
  | some ρ1 => match b ρ1 with
   | none => none
   | some (.rt w) => some (.rt w)
   | some (.nx ρ2) => forN bt b l ρ2
theorem DS.for_ {tg iter : Expr} {body : List Stmt} {bt : D -> RhoS -> Option RhoS} {fb : RhoS -> Option Out} {items : List D} (hp : PassesOwn (model X.prog X.w) X.A X.env X.xe) (hc : X.calm = true) (hi : DI X tg iter ρ items ρ')
  (hg : ∀ d ρ ρ', bt d ρ = some ρ' -> DG X tg d ρ ρ') (hb : ∀ ρ o, fb ρ = some o -> DSs X body ρ o) (hw : forN bt fb items ρ' = some o) (hs : ∀ x, foldedSetIterable iter X.env x = pure x) : DS X (.For tg iter body [] pos) ρ o := fun H0 Fc => by
 have pg : PG X tg (fun v σ H Q => ∃ d ρ ρ', bt d ρ = some ρ' /\ ∃ F, SR X.K H0 Fc F H σ ρ /\ Den X.K F d v /\ ∀ σ', SR X.K H0 Fc F H σ' ρ' -> Q σ' H) := fun pins s σ H v u Q I r hz => x3_2 hz fun d ρ ρ' h q => hg d ρ ρ' h H0 Fc pins s σ H v u Q I r q
 have pb : PSs X body (fun D σ H => ∃ ρ o, fb ρ = some o /\ tS X.K H0 Fc ρ o D σ H) := fun pins s σ H D I hz => x2_2 hz fun ρ o h q => hb ρ o h H0 Fc pins s σ H D I q
 refine PS.mono (ps_for hp hc (hi H0 Fc) pg pb hs) fun D σ H hz => x1_2 hz fun F S k => ⟨F, S, fun J H1 F1 s1 S1 wk => ?_⟩
 refine ⟨fun i m σ' H' => m = items.length - i /\ i <= items.length /\ ∃ ρ2 F2, Same F1 F2 /\ SR X.K H0 Fc F2 H' σ' ρ2 /\ forN bt fb (items.drop i) ρ2 = some o, ⟨_, rfl, zbr _, ρ', F1, Same.refl _, S1, hw⟩, ?_⟩
 rintro i m σ2 H2 ⟨rfl, hil, ρ2, F2, s2, S2, h2⟩
 have wk' := wk i H2 (s2.trans S2.sub)
 by_cases hlt : i < items.length
 ·have hd : items[i]? = some items[i] := zae hlt
  rw [zdd hlt] at h2
  refine x0_2 (wk'.1 _ hd) fun go yl => ?_
  unfold forN at h2
  cases e1 : bt items[i] ρ2 with
  | none => rw [e1] at h2; cases h2
  | some ρ3 =>
   simp only [e1] at h2
   cases e2 : fb ρ3 with
   | none => simp only [e2] at h2; cases h2
   | some o2 =>
    simp only [e2] at h2
    have item : ∀ x H', J.yld i H2 x H' -> ∃ F3, Same F2 F3 /\ SR X.K H0 Fc F3 H' σ2 ρ2 /\ Den X.K F3 items[i] x := fun x H' y => by
     rcases yl x H' y with ⟨e, q⟩ | ⟨p, xs, ds, hp, e, ex, ed, q⟩
     ·subst e; exact ⟨F2, Same.refl _, S2, q.mono s2⟩
     ·subst e ex
      refine x0_2 (S2.lay (.tup xs) hp) fun S3 s3 => ?_
      refine ⟨_, s3, S3, ?_⟩
      rw [ed]
      exact Den.tup_mk (SqT.of zko) ((q.mono s2).mono s3)
    cases o2 with
    | rt w =>
     cases h2
     refine .inr ⟨go, fun _ _ => False, fun _ _ z => z.elim, fun x H' y => ?_⟩
     refine x1_3 (item x H' y) fun F3 s3 S3 q3 => ?_
     exact ⟨_, ρ2, ρ3, e1, F3, S3, q3, fun σ' S' => ⟨ρ3, _, e2, F3, S', k⟩⟩
    | nx ρ4 =>
     refine .inr ⟨go, fun σ' H' => ∃ F', Same F1 F' /\ SR X.K H0 Fc F' H' σ' ρ4, fun σ' H' hz => x1_2 hz fun F' s' S' => ⟨items.length - (i + 1), by omega, rfl, hlt, ρ4, F', s', S', h2⟩, fun x H' y => ?_⟩
     refine x1_3 (item x H' y) fun F3 s3 S3 q3 => ?_
     exact ⟨_, ρ2, ρ3, e1, F3, S3, q3, fun σ' S' => ⟨ρ3, _, e2, F3, S', fun σ5 H5 F5 s5 S5 => ⟨F5, (s2.trans s3).trans s5, S5⟩⟩⟩
 ·have e : i = items.length := by omega
  subst e
  rw [zkd] at h2
  cases h2
  refine .inl ⟨wk'.2 (zai _), ?_⟩
  exact k σ2 H2 F2 (s1.trans s2) S2
theorem DI.list {tg : Expr} {l : List D} (he : DE X e (view ρ) w) (hl : w.d = .lst l) : DI X tg e ρ l (after w ρ) := fun H0 Fc => PI.mono (zya (he H0 Fc)) fun σ H R hz => x1_2 hz fun F S k => by
 refine x0_2 (S.borrow) fun s0 Re => ?_
 refine ⟨_, Re, fun v H2 F2 s2 R2 q => ?_⟩
 refine x1_3 (S.afterF s2 R2 q) fun F3 s3 S3 q3 => ?_
 rw [hl] at q3
 refine x2_3 (q3.lst) fun a xs e1 sq r => ?_
 refine ⟨a, e1, ⟨xs, S3.sub.seq sq⟩, k _ H2 F3 s3 S3 fun i H' sH => ⟨fun d hd => ?_, fun hle => ⟨xs, sH.seq sq, by rw [r.length]; exact hle⟩⟩⟩
 refine x1_2 (r.get hd) fun y h1 h2 => ?_
 refine ⟨⟨xs, y, sH.seq sq, h1⟩, fun x H'' hz => x0_2 hz fun ey yy => ?_⟩
 have := yy xs (sH.seq sq)
 rw [h1] at this
 cases this
 exact .inl ⟨ey, h2⟩
theorem DI.tup {tg : Expr} {l : List D} (he : DE X e (view ρ) w) (hl : w.d = .tup l) : DI X tg e ρ l (after w ρ) := fun H0 Fc => PI.mono (ydv (he H0 Fc)) fun σ H R hz => x1_2 hz fun F S k => by
 refine x0_2 (S.borrow) fun s0 Re => ?_
 refine ⟨_, Re, fun v H2 F2 s2 R2 q => ?_⟩
 refine x1_3 (S.afterF s2 R2 q) fun F3 s3 S3 q3 => ?_
 rw [hl] at q3
 refine x2_3 (q3.tup) fun a xs e1 sq r => ?_
 refine ⟨a, e1, ⟨xs, Same.tup S3.sub sq⟩, k _ H2 F3 s3 S3 fun i H' sH => ⟨fun d hd => ?_, fun hle => ⟨xs, Same.tup sH sq, by rw [r.length]; exact hle⟩⟩⟩
 refine x1_2 (r.get hd) fun y h1 h2 => ?_
 refine ⟨⟨xs, y, Same.tup sH sq, h1⟩, fun x H'' hz => x0_2 hz fun ey yy => ?_⟩
 have := yy xs (Same.tup sH sq)
 rw [h1] at this
 cases this
 exact .inl ⟨ey, h2⟩
noncomputable def zld (lo : Int) (n : Nat) : List D := (List.range n).map fun (i : Nat) => D.int (lo + (i : Int))
theorem zmu {K : PySem.W.Frag} {F : Hp} {lo : Int} {n : Nat} : Walks K F (Itr lo n) (zld lo n) := fun i H sH => by
 unfold zld
 refine ⟨fun d hd => ?_, fun hle => ?_⟩
 ·rw [zak] at hd
  by_cases hlt : i < n
  ·rw [List.getElem?_range hlt] at hd
   cases hd
   exact ⟨hlt, fun x H' hz => x0_2 hz fun e1 e2 => .inl ⟨e1, by rw [e2]; exact Den.int_mk⟩⟩
  ·rw [zeo (by rw [zej]; omega)] at hd
   cases hd
 ·rw [zad, zej] at hle
  exact hle
theorem DI.range1 {tg a : Expr} {p : Pos} {n : Int} (hg : Gl X "range") (hm : X.mg "range" = none) (ha : DA X [a] (view ρ) [.int n]) (hs : zki a = true) (h1 : -(2 ^ 62) <= n) (h2 : n < 2 ^ 62) : DI X tg (.Call (.Name "range" p) [a] [] pos) ρ (zld 0 n.toNat) ρ := fun H0 Fc =>
 PI.mono (zwp hg hm (ha H0 Fc) (zkm hs)) fun σ H R hz => x1_2 hz fun F S k => by
  refine x0_2 (S.borrow) fun s0 Re => ?_
  refine ⟨_, Re, fun vs H2 F2 s2 R2 q => ?_⟩
  refine x1_2 (S.tested s2 R2) fun F3 s3 S3 => ?_
  refine x1_2 (q.one) fun v e q => ?_
  rw [q.int] at e
  exact ⟨n, e, h1, h2, k _ H2 F3 s3 S3 zmu⟩
theorem DI.range2 {tg a b : Expr} {p : Pos} {m n : Int} (hg : Gl X "range") (hm : X.mg "range" = none) (ha : DA X [a, b] (view ρ) [.int m, .int n]) (hs : zki a = true) (hs2 : zki b = true) (h : -(2 ^ 62) <= m /\ m < 2 ^ 62 /\ -(2 ^ 62) <= n /\ n < 2 ^ 62) :
  DI X tg (.Call (.Name "range" p) [a, b] [] pos) ρ (zld m (n - m).toNat) ρ := fun H0 Fc =>
 PI.mono (zwo hg hm (ha H0 Fc) (by rw [zkm hs, zkm hs2]; rfl) (by rw [zkm hs2]; rfl)) fun σ H R hz => x1_2 hz fun F S k => by
  refine x0_2 (S.borrow) fun s0 Re => ?_
  refine ⟨_, Re, fun vs H2 F2 s2 R2 q => ?_⟩
  refine x1_2 (S.tested s2 R2) fun F3 s3 S3 => ?_
  refine x2_3 (q.two) fun v u e q1 q2 => ?_
  rw [q1.int, q2.int] at e
  exact ⟨m, n, e, h, k _ H2 F3 s3 S3 zmu⟩
end
end DL
namespace DL
open PySem L2 PyProof.Rows
section
variable {X : Cx} {elts : List Expr} {x1 : Nat} {tp : Pos}
end
end DL
namespace DL
open PySem L2 PyProof.Rows
section
variable {prog : Program} {w : World} {A : Around} {E : Value -> Shared -> Prop} {h : Heap} {g : Array GenState} {d : Drawn} {t : Nat} {os : OsState} {a C : Addr} {o : Obj} {vs : Array Value} {K : PySem.W.Frag}
structure XCls (K : PySem.W.Frag) (C : Addr) : Prop where
 cls : PySem.W.isClsIn K C = true
 typ : PySem.W.typeIn K (.ref C) = some (.type "type")
 ga : PySem.W.findIn K (.ref C) "__getattribute__" = some (some (.builtin "BaseException.__getattribute__"))
 noga : PySem.W.findIn K (.ref C) "__getattr__" = some none
 at_ : PySem.W.findIn K (.ref C) "__class__" = some (some (.builtin "object.__class__"))
 bexc : PySem.W.subIn K (.ref C) (.type "BaseException") = some true
 obj : PySem.W.subIn K (.ref C) (.type "object") = some true
end
end DL
namespace DL
open PySem L2 PyProof.Rows
section
variable {P : Program} {w : World} {H H' : Hp} {h h' : Heap} {a : Addr} {o : HO}
theorem ObjOk.ex (x : ObjOk P w H h a o) : ∃ u, h.get? a = some u := by
 cases o with
 | lst xs => refine xaeeaa x fun _ _ _ _ e => ?_; clear x; exact ⟨_, e⟩
 | tup xs => obtain ⟨_, _, _, o, e, _⟩ := x; exact ⟨_, e⟩
 | dK kvs => obtain ⟨_, _, _, _, o, _, _, e, _⟩ := x; exact ⟨_, e⟩
 | dT kvs => obtain ⟨_, _, _, _, o, _, _, e, _⟩ := x; exact ⟨_, e⟩
 | set S n => refine x4_2 x fun o _ _ _ e _ => ?_; clear x; exact ⟨_, e⟩
 | ins C dx fs => refine x0_5 x fun _ _ _ e _ => ?_; clear x; exact ⟨_, e⟩
 | own y => refine x1_1 x fun _ e => ?_; clear x; exact ⟨_, e⟩
 | xd fs => obtain ⟨_, ⟨_, _, _, e, _⟩, _⟩ := x; exact ⟨_, e⟩
 | rng lo hi => refine x3_1 x fun _ _ _ e => ?_; clear x; exact ⟨_, e⟩
 | frz ob u => refine x0_2 x fun e _ => ?_; clear x; exact ⟨_, e⟩
 | tbl ps => exact ⟨_, (show h.get? a = some _ from x)⟩
 | met f y => exact ⟨_, (show h.get? a = some _ from x)⟩
 | ext φ => obtain ⟨_, ⟨_, e⟩, _⟩ := x; exact ⟨_, e⟩
end
section
variable {fs : List Addr} {H H' : Hp} {h0 h h1 B h' : Heap}
end
section
variable {X : Cx} {pins : List (Addr × Obj)} {σ : L2.St} {H : Hp} {s : Shared} {E : XK} {E' : Value -> Shared -> Prop}
end
end DL
namespace DL
open PySem L2 PyProof.Rows
section
variable {X : Cx} {pins : List (Addr × Obj)} {σ : L2.St} {H : Hp} {s : Shared} {E : XK} {E' : Value -> Shared -> Prop}
end
end DL
namespace DL
open PySem L2 PyProof.Rows
noncomputable abbrev zrg : List Str := ["FitError", "NoNumber", "NoShape", "NoSize"]
noncomputable def subX (x y : Str) : Bool := decide (x = y) || decide (y = ("FitError" : Str)) || decide (y = ("ValueError" : Str))
structure XFacts (K : PySem.W.Frag) (mg : Str -> Option Value) : Prop where
 ve : mg "ValueError" = none
 cl : ∀ y ∈ zrg, ∃ C, PySem.W.nsIn K mainGlobals y = some (some (.ref C)) /\ mg y = some (.ref C) /\ XCls K C
 sub : ∀ x ∈ zrg, ∀ y ∈ zrg, ∀ C C', PySem.W.nsIn K mainGlobals x = some (some (.ref C)) -> PySem.W.nsIn K mainGlobals y = some (some (.ref C')) -> PySem.W.kitOne K (.ref C) (.ref C') = some (subX x y)
 subV : ∀ x ∈ zrg, ∀ C, PySem.W.nsIn K mainGlobals x = some (some (.ref C)) -> PySem.W.kitOne K (.ref C) (.type "ValueError") = some true
 exm : ∀ x ∈ zrg, ∀ C C', PySem.W.nsIn K mainGlobals x = some (some (.ref C)) -> PySem.W.nsIn K mainGlobals "FitError" = some (some (.ref C')) -> PySem.W.exmOne K (.ref C) (.ref C') = some true
section
variable {X : Cx} {pins : List (Addr × Obj)} {σ : L2.St} {H : Hp} {s : Shared} {E' : Value -> Shared -> Prop} {e : Expr} {es : List Expr} {pos : Pos}
end
section
variable {X : Cx} {e : Expr} {es : List Expr} {ρ : RhoS} {pos : Pos} {ds : List D}
end
end DL
namespace DL
open PySem L2 PyProof.Rows
noncomputable def isX (ys : List Str) : D -> Option Bool
 | .exc x => if x ∈ zrg then some (ys.any (subX x)) else none
 | .non => some false
 | _ => none
section
variable {X : Cx} {a e : Expr} {ρ : Rho} {pos : Pos}
end
end DL
namespace DL
open PySem L2 PyProof.Rows
section
variable {X : Cx} {pins : List (Addr × Obj)} {σ : L2.St} {H : Hp} {s : Shared}
end
end DL
namespace DL
open PySem L2 PyProof.Rows
mutual
noncomputable def toP : D -> PyData
 | .non => .none
 | .bl b => .bool b
 | .int i => .int i
 | .tup l => .tuple (toPs l)
 | .lst l => .list (toPs l)
 | .exc _ => .none
noncomputable def toPs : List D -> List PyData
 | [] => []
 | d :: l => toP d :: toPs l
end
mutual
noncomputable def dOk : Nat -> D -> Bool
 | _, .non => true
 | _, .bl _ => true
 | _, .int _ => true
 | 0, .tup _ => false
 | n + 1, .tup l => dOkL n l
 | 0, .lst _ => false
 | n + 1, .lst l => dOkL n l
 | _, .exc _ => false
noncomputable def dOkL : Nat -> List D -> Bool
 | _, [] => true
 | n, d :: l => dOk n d && dOkL n l
end
mutual
noncomputable def eqD : D -> D -> Bool
 | .non, .non => true
 | .bl a, .bl b => a == b
 | .bl a, .int j => (if a then 1 else 0) == j
 | .int i, .bl b => i == (if b then 1 else 0)
 | .int i, .int j => i == j
 | .tup l, .tup m => eqL l m
 | .lst l, .lst m => eqL l m
 | _, _ => false
noncomputable def eqL : List D -> List D -> Bool
 | [], [] => true
 | d :: l, e :: m => eqD d e && eqL l m
 | _, _ => false
end
mutual
theorem yjt : ∀ (n m : Nat) (d e : D), dOk n d = true -> dOk m e = true -> PyData.eqv (toP d) (toP e) = eqD d e
 | n, m, .tup l, .tup k, h1, h2 => by
  cases n with
  | zero => simp only [dOk] at h1; cases h1
  | succ n =>
   cases m with
   | zero => simp only [dOk] at h2; cases h2
   | succ m =>
    simp only [dOk] at h1 h2
    simp only [toP, PyData.eqv, eqD]
    exact eqv_L n m l k h1 h2
 | n, m, .lst l, .lst k, h1, h2 => by
  cases n with
  | zero => simp only [dOk] at h1; cases h1
  | succ n =>
   cases m with
   | zero => simp only [dOk] at h2; cases h2
   | succ m =>
    simp only [dOk] at h1 h2
    simp only [toP, PyData.eqv, eqD]
    exact eqv_L n m l k h1 h2
 | n, m, .exc _, _, h1, _ => by simp only [dOk] at h1; cases h1
 | n, m, d, .exc _, _, h2 => by simp only [dOk] at h2; cases h2
 | n, m, .non, .non, _, _ => by simp only [toP, PyData.eqv, eqD]
 | n, m, .non, .bl _, _, _ => by simp only [toP, PyData.eqv, eqD]
 | n, m, .non, .int _, _, _ => by simp only [toP, PyData.eqv, eqD]
 | n, m, .non, .tup _, _, _ => by simp only [toP, PyData.eqv, eqD]
 | n, m, .non, .lst _, _, _ => by simp only [toP, PyData.eqv, eqD]
 | n, m, .bl _, .non, _, _ => by simp only [toP, PyData.eqv, eqD]
 | n, m, .bl _, .bl _, _, _ => by simp only [toP, PyData.eqv, eqD]
 | n, m, .bl _, .int _, _, _ => by simp only [toP, PyData.eqv, eqD]
 | n, m, .bl _, .tup _, _, _ => by simp only [toP, PyData.eqv, eqD]
 | n, m, .bl _, .lst _, _, _ => by simp only [toP, PyData.eqv, eqD]
 | n, m, .int _, .non, _, _ => by simp only [toP, PyData.eqv, eqD]
 | n, m, .int _, .bl _, _, _ => by simp only [toP, PyData.eqv, eqD]
 | n, m, .int _, .int _, _, _ => by simp only [toP, PyData.eqv, eqD]
 | n, m, .int _, .tup _, _, _ => by simp only [toP, PyData.eqv, eqD]
 | n, m, .int _, .lst _, _, _ => by simp only [toP, PyData.eqv, eqD]
 | n, m, .tup _, .non, _, _ => by simp only [toP, PyData.eqv, eqD]
 | n, m, .tup _, .bl _, _, _ => by simp only [toP, PyData.eqv, eqD]
 | n, m, .tup _, .int _, _, _ => by simp only [toP, PyData.eqv, eqD]
 | n, m, .tup _, .lst _, _, _ => by simp only [toP, PyData.eqv, eqD]
 | n, m, .lst _, .non, _, _ => by simp only [toP, PyData.eqv, eqD]
 | n, m, .lst _, .bl _, _, _ => by simp only [toP, PyData.eqv, eqD]
 | n, m, .lst _, .int _, _, _ => by simp only [toP, PyData.eqv, eqD]
 | n, m, .lst _, .tup _, _, _ => by simp only [toP, PyData.eqv, eqD]
theorem eqv_L : ∀ (n m : Nat) (l k : List D), dOkL n l = true -> dOkL m k = true -> PyData.eqvAll (toPs l) (toPs k) = eqL l k
 | n, m, [], [], _, _ => by simp only [toPs, PyData.eqvAll, eqL]
 | n, m, d :: l, e :: k, h1, h2 => by
  simp only [dOkL, zaj] at h1 h2
  simp only [toPs, PyData.eqvAll, eqL]
  rw [yjt n m d e h1.1 h2.1, eqv_L n m l k h1.2 h2.2]
 | n, m, [], _ :: _, _, _ => by simp only [toPs, PyData.eqvAll, eqL]
 | n, m, _ :: _, [], _, _ => by simp only [toPs, PyData.eqvAll, eqL]
end
mutual
theorem yiz : ∀ (n : Nat) (d : D), dOk n d = true -> (toP d).canLay0 = true /\ (toP d).depth <= n
 | _, .non, _ => by simp [toP, PyData.canLay0, PyData.depth]
 | _, .bl _, _ => by simp [toP, PyData.canLay0, PyData.depth]
 | _, .int _, _ => by simp [toP, PyData.canLay0, PyData.depth]
 | 0, .tup _, h => by simp only [dOk] at h; cases h
 | n + 1, .tup l, h => by
  simp only [dOk] at h
  refine x0_2 (lay_L n l h) fun a b => ?_
  simp only [toP, PyData.canLay0, PyData.depth]
  exact ⟨a, by omega⟩
 | 0, .lst _, h => by simp only [dOk] at h; cases h
 | n + 1, .lst l, h => by
  simp only [dOk] at h
  refine x0_2 (lay_L n l h) fun a b => ?_
  simp only [toP, PyData.canLay0, PyData.depth]
  exact ⟨a, by omega⟩
 | _, .exc _, h => by simp only [dOk] at h; cases h
theorem lay_L : ∀ (n : Nat) (l : List D), dOkL n l = true -> PyData.canLayAll0 (toPs l) = true /\ PyData.depthAll (toPs l) <= n
 | _, [], _ => by simp [toPs, PyData.canLayAll0, PyData.depthAll]
 | n, d :: l, h => by
  simp only [dOkL, zaj] at h
  refine x0_2 (yiz n d h.1) fun a b => ?_
  refine x0_2 (lay_L n l h.2) fun c e => ?_
  simp only [toPs, PyData.canLayAll0, PyData.depthAll, zaj]
  exact ⟨⟨a, c⟩, by omega⟩
end
section
variable {X : Cx} {pins : List (Addr × Obj)} {σ : L2.St} {H F : Hp} {s : Shared}
mutual
theorem znh (I : Inv X pins σ H s) (sF : Same F H) : ∀ (n : Nat) (d : D) {v : V} {u : Value}, dOk n d = true -> Den X.K F d v -> RelV v u -> ∃ as, Reads s.heap u (toP d) as
 | _, .non, v, u, _, h, r => by rw [h.non] at r; cases (show u = Value.none from r); exact ⟨_, .none⟩
 | _, .bl b, v, u, _, h, r => by rw [h.bl] at r; cases (show u = Value.bool b from r); exact ⟨_, .bool b⟩
 | _, .int i, v, u, _, h, r => by
  rw [h.int] at r
  refine x1_1 ((show ∃ t, u = Value.int i t from r)) fun t e => ?_
  subst e
  exact ⟨_, .int i t⟩
 | 0, .tup _, _, _, h, _, _ => by simp only [dOk] at h; cases h
 | n + 1, .tup l, v, u, hd, h, r => by
  simp only [dOk] at hd
  refine x2_3 (h.tup) fun a xs e sq q => ?_
  subst e
  cases (show u = Value.ref a from r)
  obtain ⟨its, rs, ⟨o, h1, h2, k, h3⟩, _⟩ := I.tuple (Same.tup sF sq)
  refine x1_1 (reads_L I sF n l hd q rs) fun as ra => ?_
  exact ⟨_, .tuple h1 h2 h3 (by simpa using ra)⟩
 | 0, .lst _, _, _, h, _, _ => by simp only [dOk] at h; cases h
 | n + 1, .lst l, v, u, hd, h, r => by
  simp only [dOk] at hd
  refine x2_3 (h.lst) fun a xs e sq q => ?_
  subst e
  cases (show u = Value.ref a from r)
  obtain ⟨its, rs, ⟨o, k, h1, h2, h3⟩, _⟩ := I.list (sF.seq sq)
  refine x1_1 (reads_L I sF n l hd q rs) fun as ra => ?_
  exact ⟨_, .list h1 h2 h3.2 (by simpa using ra)⟩
 | _, .exc _, _, _, h, _, _ => by simp only [dOk] at h; cases h
theorem reads_L (I : Inv X pins σ H s) (sF : Same F H) : ∀ (n : Nat) (l : List D) {xs : List V} {us : List Value}, dOkL n l = true -> DenL X.K F l xs -> Vals xs us -> ∃ as, ReadsAll s.heap us (toPs l) as
 | _, [], xs, us, _, h, r => by
  rw [h.inv_nil] at r
  cases r
  exact ⟨_, .nil⟩
 | n, d :: l, xs, us, hd, h, r => by
  simp only [dOkL, zaj] at hd
  refine x2_3 (h.inv_cons) fun v vs e q1 q2 => ?_
  subst e
  cases r with
  | cons r1 r2 =>
   refine x1_1 (znh I sF n d hd.1 q1 r1) fun as ra => ?_
   refine x1_1 (reads_L I sF n l hd.2 q2 r2) fun bs rb => ?_
   exact ⟨_, .cons ra rb⟩
end
end
section
variable {X : Cx}
theorem zqv {d : D} (h : dOk 50 d = true) : SeqAt.shaped (toP d) = true := by
 refine x0_2 (yiz 50 d h) fun a b => ?_
 unfold SeqAt.shaped
 rw [a, zij]
 exact decide_eq_true (by omega)
noncomputable def yie (K : PySem.W.Frag) (x y : D) (k : Bool) : R2 := fun v u H Q => ∃ F, Same F H /\ Den K F x v /\ Den K F y u /\ Q (.bl k) H
theorem yfy {x y : D} (hu : X.A.units + 64 < cLine) (hx : dOk 50 x = true) (hy : dOk 50 y = true) : znf X .Eq x y (eqD x y) := by
 refine ⟨yie X.K x y (eqD x y), ?_, fun H F v u Q s qv qu q => ⟨F, s, qv, qu, q⟩⟩
 intro pins s σ H v u vv uu Q I r1 r2 ⟨F, sF, q1, q2, q⟩
 refine x1_1 (znh I sF 50 x hx q1 r1) fun as ra => ?_
 refine x1_1 (znh I sF 50 y hy q2 r2) fun bs rb => ?_
 refine eq_dataH ra rb (zqv hx) (zqv hy) hu ?_
 rw [yjt 50 50 x y hx hy]
 exact ⟨.bl _, H, I, rfl, q⟩
theorem yfx {x y : D} (hu : X.A.units + 64 < cLine) (hx : dOk 50 x = true) (hy : dOk 50 y = true) : znf X .NotEq x y (!eqD x y) := by
 refine ⟨yie X.K x y (!eqD x y), ?_, fun H F v u Q s qv qu q => ⟨F, s, qv, qu, q⟩⟩
 intro pins s σ H v u vv uu Q I r1 r2 ⟨F, sF, q1, q2, q⟩
 refine x1_1 (znh I sF 50 x hx q1 r1) fun as ra => ?_
 refine x1_1 (znh I sF 50 y hy q2 r2) fun bs rb => ?_
 refine ne_dataH ra rb (zqv hx) (zqv hy) hu ?_
 rw [yjt 50 50 x y hx hy]
 exact ⟨.bl _, H, I, rfl, q⟩
theorem yqw {x : D} (hx : dOk 50 x = true) : ∀ (l : List D), dOkL 49 l = true -> ((toPs l).any fun y => PyData.eqv y (toP x)) = l.any fun y => eqD y x
 | [], _ => rfl
 | d :: l, h => by
  simp only [dOkL, zaj] at h
  simp only [toPs, List.any_cons]
  rw [yjt 49 50 d x h.1 hx, yqw hx l h.2]
theorem yqd {x : D} {l : List D} (hu : X.A.units + 64 < cLine) (hx : dOk 50 x = true) (hy : dOkL 49 l = true) : znf X .In x (.lst l) (l.any fun y => eqD y x) := by
 refine ⟨yie X.K x (.lst l) _, ?_, fun H F v u Q s qv qu q => ⟨F, s, qv, qu, q⟩⟩
 intro pins s σ H v u vv uu Q I r1 r2 ⟨F, sF, q1, q2, q⟩
 refine x1_1 (znh I sF 50 x hx q1 r1) fun as ra => ?_
 refine x1_1 (znh I sF 50 (.lst l) (by simp only [dOk]; exact hy) q2 r2) fun bs rb => ?_
 simp only [toP] at rb
 refine x0_2 (yiz 50 x hx) fun a b => ?_
 refine x0_2 (lay_L 49 l hy) fun a2 b2 => ?_
 refine SeqAt.in_list_reads rb ra a2 a (by have := Nat.min_le_right (PyData.depthAll (toPs l)) (toP x).depth; omega) ?_
 rw [yqw hx l hy]
 exact ⟨.bl _, H, I, rfl, q⟩
theorem ykc {x : D} {l : List D} (hu : X.A.units + 64 < cLine) (hx : dOk 50 x = true) (hy : dOkL 49 l = true) : znf X .NotIn x (.lst l) (!(l.any fun y => eqD y x)) := by
 refine ⟨yie X.K x (.lst l) _, ?_, fun H F v u Q s qv qu q => ⟨F, s, qv, qu, q⟩⟩
 intro pins s σ H v u vv uu Q I r1 r2 ⟨F, sF, q1, q2, q⟩
 refine x1_1 (znh I sF 50 x hx q1 r1) fun as ra => ?_
 refine x1_1 (znh I sF 50 (.lst l) (by simp only [dOk]; exact hy) q2 r2) fun bs rb => ?_
 simp only [toP] at rb
 refine x0_2 (yiz 50 x hx) fun a b => ?_
 refine x0_2 (lay_L 49 l hy) fun a2 b2 => ?_
 refine SeqAt.notIn_list_reads rb ra a2 a (by have := Nat.min_le_right (PyData.depthAll (toPs l)) (toP x).depth; omega) ?_
 rw [yqw hx l hy]
 exact ⟨.bl _, H, I, rfl, q⟩
end
end DL
namespace DL
open PySem L2 PyProof.Rows
noncomputable def cloF (cells : List (Str × Addr)) : List (Str × NameKind) -> List (Str × Addr) -> List (Str × Addr)
 | [], cs => cs
 | (n, k) :: r, cs => cloF cells r (if (k == NameKind.free) = true then (n, (cells.lookup n).getD 0) :: cs else cs)
theorem yme {scope : Scope} {env : Env} (h : ∀ y ∈ scope.names, y.2 = .free -> ∃ c, env.cells.lookup y.1 = some c) : closureFor scope env = pure (cloF env.cells scope.names []) := by
 have key : ∀ (l : List (Str × NameKind)) (cs : List (Str × Addr)), (∀ y ∈ l, y.2 = .free -> ∃ c, env.cells.lookup y.1 = some c) ->
   (forIn l cs (fun x cs => if (x.2 == NameKind.free) = true then do let a <- cellOf env x.1; pure (ForInStep.yield ((x.1, a) :: cs)) else pure (ForInStep.yield cs)) : Sem (List (Str × Addr))) = pure (cloF env.cells l cs) := by
  intro l
  induction l with
  | nil => intro cs _; rfl
  | cons y l ih =>
   intro cs h
   rw [List.forIn_cons]
   obtain ⟨n, k⟩ := y
   have ih' := fun cs => ih cs fun z hz => h z (zbl _ hz)
   by_cases e : (k == NameKind.free) = true
   ·refine x1_1 (h (n, k) zca (by cases k <;> first | rfl | cases e)) fun c hc => ?_
    have hcell : cellOf env n = pure c := by unfold cellOf; rw [hc]
    simp only [e, if_true, hcell, pure_bind]
    rw [ih']
    simp only [cloF, e, if_true, hc, zji]
   ·simp only [e, if_false, pure_bind, zay]
    rw [ih']
    simp only [cloF, e, if_false, zay]
 unfold closureFor
 have := key scope.names [] h
 simp only [bind_pure]
 first | exact this | (refine Eq.trans ?_ this; rfl) | (simp at this ⊢; exact this)
theorem zrc {cells : List (Str × Addr)} : ∀ (l : List (Str × NameKind)) (cs : List (Str × Addr)), (∀ y ∈ l, y.2 = .free -> ∃ c, cells.lookup y.1 = some c) -> (∀ p ∈ cs, cells.lookup p.1 = some p.2) -> ∀ p ∈ cloF cells l cs, cells.lookup p.1 = some p.2
 | [], cs, _, h, p, hp => h p hp
 | (n, k) :: r, cs, hl, h, p, hp => by
  unfold cloF at hp
  refine zrc r _ (fun z hz => hl z (zbl _ hz)) (fun q hq => ?_) p hp
  by_cases e : (k == NameKind.free) = true
  ·rw [if_pos e] at hq
   rcases zan.mp hq with z | z
   ·subst z
    refine x1_1 (hl (n, k) zca (by cases k <;> first | rfl | cases e)) fun c hc => ?_
    simp only [hc, zji]
   ·exact h q z
  ·rw [if_neg e] at hq; exact h q hq
theorem zxi {cells : List (Str × Addr)} : ∀ (l : List (Str × NameKind)) (cs : List (Str × Addr)) (p : Str × Addr), p ∈ cs -> p ∈ cloF cells l cs
 | [], _, _, h => h
 | (n, k) :: r, cs, p, h => by
  unfold cloF
  refine zxi r _ p ?_
  by_cases e : (k == NameKind.free) = true
  ·rw [if_pos e]; exact zbl _ h
  ·rw [if_neg e]; exact h
theorem zvc {cells : List (Str × Addr)} : ∀ (l : List (Str × NameKind)) (cs : List (Str × Addr)) (x : Str), (x, NameKind.free) ∈ l -> ∃ c, (x, c) ∈ cloF cells l cs
 | (n, k) :: r, cs, x, h => by
  unfold cloF
  rcases zan.mp h with z | z
  ·cases z
   have ef : (NameKind.free == NameKind.free) = true := rfl
   simp only [ef, if_true]
   exact ⟨_, zxi r _ _ zca⟩
  ·exact zvc r _ x z
theorem zlw {α : Type} : ∀ {l : List (Str × α)} {x : Str} {c : α}, l.lookup x = some c -> (x, c) ∈ l
 | [], _, _, h => by cases h
 | (n, a) :: r, x, c, h => by
  rw [zcy] at h
  cases q : (x == n) with
  | true => rw [q] at h; cases h; rw [eq_of_beq q]; exact zca
  | false => rw [q] at h; exact zbl _ (zlw h)
theorem zps {α : Type} : ∀ {l : List (Str × α)} {x : Str} {c : α}, (x, c) ∈ l -> ∃ c', l.lookup x = some c'
 | (n, a) :: r, x, c, h => by
  rw [zcy]
  cases q : (x == n) with
  | true => exact ⟨_, rfl⟩
  | false =>
   rcases zan.mp h with z | z
   ·cases z; rw [beq_self_eq_true] at q; cases q
   ·exact zps z
end DL
namespace DL
open PySem L2 PyProof.Rows
theorem zoi {scope : Scope} {env : Env} {x : Str} : (relabel scope env).names.lookup x = (scope.names.lookup x).map fun k => if (k == NameKind.free && env.scope.kind == .function && env.kindOf x == some .cell) = true then NameKind.cell else k := by
 unfold relabel
 simp only
 generalize scope.names = l
 induction l with
 | nil => rfl
 | cons y l ih =>
  obtain ⟨n, k⟩ := y
  rw [zba]
  by_cases hc : (k == NameKind.free && env.scope.kind == .function && env.kindOf n == some .cell) = true
  ·simp only [hc, if_true]
   rw [zcy, zcy]
   cases q : (x == n) with
   | true => have := eq_of_beq q; subst this; simp only [zbv]; rw [if_pos hc]
   | false => simpa using ih
  ·simp only [hc]
   rw [if_neg (by simp), zcy, zcy]
   cases q : (x == n) with
   | true => have := eq_of_beq q; subst this; simp only [zbv]; rw [if_neg hc]
   | false => simpa using ih
noncomputable def blk (X : Cx) (scope : Scope) (cl : List (Str × Addr)) (C : Addr) (N' : List Str) (s₀ : Shared) (H₀ : Hp) (ex : List Addr) : Cx :=
 { X with N := N', s₀ := s₀, H₀ := H₀, env := compEnvC scope cl C X.env, outer := X.stack, stack := X.stack, ex := ex, fn := fun _ => false, pn := [], xe := fun _ _ => False }
section
variable {X : Cx} {pins : List (Addr × Obj)} {σ : L2.St} {H : Hp} {s : Shared} {scope : Scope} {C : Addr} {N' : List Str} {fp : List Addr}
theorem blk_ok (I : Inv X pins σ H s) (hk : scope.kind = .function) (hcell : ∀ y ∈ scope.names, y.2 ≠ .cell) (hfree : ∀ y ∈ scope.names, y.2 = .free -> ∃ c, X.env.cells.lookup y.1 = some c)
  (hC : s.heap.objs.size <= C) (hfp : ∀ b ∈ fp, FpOk X pins H b) (hfo : ∀ b ∈ fp, ∃ o, s.heap.get? b = some o) : (blk X scope (cloF X.env.cells scope.names []) C N' s H fp).Ok := by
 have hcl : ∀ {x c}, (cloF X.env.cells scope.names []).lookup x = some c -> X.env.cells.lookup x = some c := fun h => zrc scope.names [] hfree (fun p hp => nomatch hp) _ (zlw h)
 refine ⟨I.ok.mod, hk, I.ok.glob, I.ok.blt, hC, fun x y c h1 h2 => I.ok.inj x y c (hcl h1) (hcl h2), fun x h => ?_, fun x c h => absurd h (by simp [blk]), I.ok.hd, I.ok.frames, .inl rfl, fun b hb => ?_, I.bs, zcb I.ok.bsz I.sz, fun b o e hb => ?_, fun b hb z => ?_, I.stack, I.stkFree⟩
 ·have hx : (relabel scope X.env).names.lookup x = some .cell ∨ (relabel scope X.env).names.lookup x = some .free := h
  rw [zoi] at hx
  have : scope.names.lookup x = some .free := by
   cases q : scope.names.lookup x with
   | none => rw [q] at hx; rcases hx with z | z <;> cases z
   | some k =>
    rw [q] at hx
    have hm := zlw q
    cases k with
    | free => rfl
    | cell => exact absurd rfl (hcell _ hm)
    | _ => rcases hx with z | z <;> simp at z
  obtain ⟨c, hc⟩ := zvc scope.names [] x (zlw this)
  exact zps hc
 ·refine x1_1 (hfo b hb) fun o e => ?_
  refine ⟨?_, fun x c h => (hfp b hb).2.2.2.2.1 x c (hcl h)⟩
  exact zbc (zaq (zam e) hC)
 ·rcases (hfp b hb).2.2.2.1 with z | z
  ·exact I.ok.noex b o e z
  ·exact absurd (zaq (zam e) (zcb I.ok.bsz z)) (Nat.lt_irrefl _)
 ·rcases zan.mp (I.stkSub b z) with e | e
  ·exact (hfp b hb).2.1 e
  ·exact (hfp b hb).2.2.1 e
theorem yqp {s' : Shared} {h' : Heap} {t' : Nat} {σ' : L2.St} (I : Inv X pins σ H s) (hk : scope.kind = .function) (hcell : ∀ y ∈ scope.names, y.2 ≠ .cell) (hfree : ∀ y ∈ scope.names, y.2 = .free -> ∃ c, X.env.cells.lookup y.1 = some c)
  (hC : C = s.heap.objs.size) (hfp : ∀ b ∈ fp, FpOk X pins H b) (hfo : ∀ b ∈ fp, ∃ o, s.heap.get? b = some o) {m : Str -> Option Value} (hns : h'.Ns C m) (hkp : ∀ b o, s.heap.get? b = some o -> h'.get? b = some o)
  (hl : σ'.length = N'.length)
  (hv : ∀ (i : Nat) (x : Str) (v : V), N'[i]? = some x -> σ'[i]? = some (some v) -> scope.names.lookup x = some .free /\ X.env.kindOf x = some .cell /\ ∃ j : Nat, X.N[j]? = some x /\ σ[j]? = some (some v)) :
  Inv (blk X scope (cloF X.env.cells scope.names []) C N' s H fp) [] σ' H { s with heap := h', toks := t' } := by
 have hcl : ∀ {x c}, (cloF X.env.cells scope.names []).lookup x = some c -> X.env.cells.lookup x = some c := fun h => zrc scope.names [] hfree (fun p hp => nomatch hp) _ (zlw h)
 refine ⟨blk_ok I hk hcell hfree (ziv hC.symm) hfp hfo, rfl, I.bare, Un.kept hkp, ⟨m, hns, fun i x v e1 e2 e3 => ?_⟩, fun x c e => ?_, ?_, fun x c e => I.freeC x c (hcl e), fun p hp => ?_, I.hok.kept hkp, hl⟩
 ·refine xaaeaa (hv i x v e1 e2) fun f1 f2 j g1 g2 => ?_
  refine x1_2 (I.loc) fun m0 hn0 hl0 => ?_
  refine x1_2 (hl0 j x v g1 g2 (.inr (.inl f2))) fun u r lk => ?_
  refine ⟨u, r, .inr ⟨.inl ?_, ?_⟩⟩
  ·show (relabel scope X.env).names.lookup x = some .cell
   rw [zoi, f1]
   have : (X.env.scope.kind == ScopeKind.function) = true := by rw [I.ok.kind]; rfl
   simp [this, f2]
  ·rcases lk with ⟨z, _⟩ | ⟨_, c, hc, hcell'⟩
   ·rw [f2] at z; cases z
   ·obtain ⟨c', hc'⟩ := zvc scope.names [] x (zlw f1)
    refine x1_1 (zps hc') fun c2 hc2 => ?_
    have := hcl hc2
    rw [hc] at this
    cases this
    refine x1_2 hcell' fun o ho hd => ?_; clear hcell'
    exact ⟨c, hc2, o, hkp _ _ ho, hd⟩
 ·refine x2_2 (I.cell x c (hcl e)) fun v o ho hd => ?_
  exact ⟨v, o, hkp _ _ ho, hd⟩
 ·show H C = none
  rw [hC]; exact I.hok.fresh (zai _)
 ·exact nomatch hp
theorem yqq {cl : List (Str × Addr)} {σ' : L2.St} {H' : Hp} {s' : Shared} {pl : List (Addr × Obj)} (I : Inv X pins σ H s) (hfp : ∀ b ∈ fp, FpOk X pins H b) (J : Inv (blk X scope cl C N' s H fp) pl σ' H' s') : Inv X pins σ H' s' :=
 I.call' (ch := fp) J.os J.base J.hok J.bare fun b hb => ⟨(hfp b hb).2.2.2.1, (hfp b hb).2.1, (hfp b hb).2.2.2.2.1, (hfp b hb).2.2.2.2.2⟩
end
end DL
namespace DL
open PySem L2 PyProof.Rows
section
variable {K : PySem.W.Frag} {H0 Fc F H : Hp} {σ : L2.St} {ρ : Rho}
theorem ER.mutF (R : ER K H0 Fc F H σ ρ) {a : Addr} {o : HO} (hF : F a = none) (h0 : H0 a = none) : ER K H0 Fc F (upd H a o) σ ρ :=
 ⟨fun b u e => by rw [zkp (fun z => by subst z; rw [hF] at e; cases e)]; exact R.sub b u e, fun b u e => by rw [zkp (fun z => by subst z; rw [h0] at e; cases e)]; exact R.same b u e, R.base, R.new, R.env⟩
theorem ER.here (R : ER K H0 Fc F H σ ρ) : ER K H F F H σ ρ := ⟨R.sub, Same.refl _, Same.refl _, fun a o e => .inl e, R.env⟩
theorem ER.there {F' H' : Hp} {σ' : L2.St} {ρ' : Rho} (R : ER K H0 Fc F H σ ρ) (R' : ER K H F F' H' σ' ρ') : ER K H0 Fc F' H' σ' ρ' :=
 ⟨R'.sub, R.same.trans R'.same, R.base.trans R'.base, fun a o e => (R'.new a o e).elim (R.new a o) fun z => .inr (R.same.free z), R'.env⟩
theorem ER.fewer {ρ' : Rho} (R : ER K H0 Fc F H σ ρ) (h : ∀ (i : Nat) d, ρ'[i]? = some (some d) -> ρ[i]? = some (some d)) : ER K H0 Fc F H σ ρ' := ⟨R.sub, R.same, R.base, R.new, fun i d e => R.env i d (h i d e)⟩
end
noncomputable def DIe (X : Cx) (tg iter : Expr) (ρ : Rho) (items : List D) : Prop := ∀ H0 Fc, PI X tg iter (fun σ H R => ∃ F, ER X.K H0 Fc F H σ ρ /\ ∀ J H' F', Same F F' -> ER X.K H0 Fc F' H' σ ρ -> Walks X.K F' J items -> R J H')
noncomputable def DGe (X : Cx) (tg : Expr) (d : D) (ρ ρ' : Rho) : Prop := ∀ H0 Fc, PG X tg (fun v σ H Q => σ.length = X.N.length /\ ∃ F, ER X.K H0 Fc F H σ ρ /\ Den X.K F d v /\ ∀ σ', σ'.length = X.N.length -> ER X.K H0 Fc F H σ' ρ' -> Q σ' H)
noncomputable def znp (f : D -> Option (Option D)) : List D -> Option (List D)
 | [] => some []
 | d :: l => match f d with
  | none => none
  | some none => znp f l
  | some (some e) => (znp f l).map fun r => e :: r
noncomputable def DTs (X : Cx) (ifs : List Expr) (ρ : Rho) (k : Bool) : Prop := (ifs = [] /\ k = true) ∨ ∃ c, ifs = [c] /\ DT X c ρ k
section
variable {X : Cx} {pins : List (Addr × Obj)} {σ : L2.St} {H1 : Hp} {s2 : Shared} {tg elt iter : Expr} {ifs : List Expr} {scope : Scope} {pos : Pos} {fp : List Addr} {it : Addr} {tn : Nat -> Heap -> Prop} {J : It} {N' : List Str} {items res : List D} {f : D -> Option (Option D)} {ρ0 : Rho}
noncomputable def CInv (X : Cx) (scope : Scope) (C : Addr) (N' : List Str) (s3 : Shared) (H1 : Hp) (D : Addr) (fp : List Addr) (tn : Nat -> Heap -> Prop) (items : List DL.D) (H0 Fc F1 : Hp) (ρ0 : Rho) (f : DL.D -> Option (Option DL.D)) (res : List DL.D) (n : Nat) (s' : Shared) : Prop :=
 ∃ i σ1 Ha Fa ys done rest, Inv (blk X scope (cloF X.env.cells scope.names []) C N' s3 (upd H1 D (.lst [])) fp) [] σ1 Ha s' /\ tn i s'.heap /\ (∀ b ∈ fp, Ha b = none) /\ n = items.length + 1 - i /\ i <= items.length /\
   ER X.K H0 Fc Fa Ha σ1 ρ0 /\ Same F1 Fa /\ Fa D = none /\ Ha D = some (.lst ys) /\ DenL X.K Fa done ys /\ znp f (items.drop i) = some rest /\ done ++ rest = res /\ done.length <= i
theorem ztt {K : PySem.W.Frag} (hK : K = X.K) {H0 Fc F1 : Hp} {ρ : Rho} {σ' : L2.St} {RR : Value -> Addr -> Result -> Shared -> Prop} {E : Value -> Shared -> Prop} (I : Inv X pins σ H1 s2) (hcalm : X.calm = true) (T : Turn X.prog X.w X.K tg J fp it tn) (h0 : tn 0 s2.heap) (hfp : ∀ b ∈ fp, FpOk X pins H1 b)
  (hk : scope.kind = .function) (hcell : ∀ y ∈ scope.names, y.2 ≠ .cell) (hfree : ∀ y ∈ scope.names, y.2 = .free -> ∃ c, X.env.cells.lookup y.1 = some c)
  (R1 : ER X.K H0 Fc F1 H1 σ ρ) (hl : σ'.length = N'.length) (hρ : ∀ (i : Nat) d, ρ0[i]? = some (some d) -> ∃ v, σ'[i]? = some (some v) /\ Den X.K F1 d v)
  (hv : ∀ (i : Nat) (x : Str) (v : V), N'[i]? = some x -> σ'[i]? = some (some v) -> scope.names.lookup x = some .free /\ X.env.kindOf x = some .cell /\ ∃ j : Nat, X.N[j]? = some x /\ σ[j]? = some (some v))
  (wk : Walks X.K F1 J items) (hsz : items.length <= sizeLine) (hres : znp f items = some res)
  (hblk : ∀ (C : Addr) (s₀ : Shared) (H₀ : Hp) (d : D) (o : Option D), d ∈ items -> f d = some o -> ∃ ρd, DGe (blk X scope (cloF X.env.cells scope.names []) C N' s₀ H₀ fp) tg d ρ0 ρd /\ (∀ (i : Nat) d, ρ0[i]? = some (some d) -> ρd[i]? = some (some d)) /\
   (match o with | none => DTs (blk X scope (cloF X.env.cells scope.names []) C N' s₀ H₀ fp) ifs ρd false | some e => DTs (blk X scope (cloF X.env.cells scope.names []) C N' s₀ H₀ fp) ifs ρd true /\ DF (blk X scope (cloF X.env.cells scope.names []) C N' s₀ H₀ fp) elt ρd e))
  (kend : ∀ (D C : Addr) (s5 : Shared) (H' F' : Hp) (ys : List V) (m : Str -> Option Value), Inv X pins σ H' s5 -> s5.heap.Ns C m -> H' C = none -> C ≠ X.env.locals -> X.s₀.heap.objs.size <= C -> (∀ x c, X.env.cells.lookup x = some c -> c ≠ C) -> (∀ p ∈ X.pn ++ pins, p.1 ≠ C) ->
   Same F1 F' -> ER X.K H0 Fc F' H' σ ρ -> F' D = none -> H0 D = none -> H' D = some (.lst ys) -> DenL X.K F' res ys -> RR (.ref D) C (.ok .next) s5) :
  wpAny (model X.prog X.w) X.A (newList []) (fun acc s₃ => wpAny (model X.prog X.w) X.A (newFunctionEnv scope X.env.globals (cloF X.env.cells scope.names []) [] X.env.qual none .none (some X.env)) (fun cenv s₄ =>
   codeAny (model X.prog X.w) X.A (.compStart (.ListComp elt [⟨tg, iter, ifs, 0⟩] scope pos) 0 (.ref it) acc { cenv with scope := relabel scope X.env }) (RR acc cenv.locals) s₄) E s₃) E s2 := by
 have fo2 : ∀ b ∈ fp, ∃ o, s2.heap.get? b = some o := fun b hb => by
  refine x1_2 (T.obj 0 _ h0 b hb) fun o e _ => ?_
  exact ⟨o, e⟩
 refine zdz ?_ (by show 0 <= sizeLine; exact zbr _)
 have I3 : Inv X pins σ (upd H1 s2.heap.objs.size (.lst [])) { s2 with heap := s2.heap.push { cls := .type "list", data := .seq ([] : List Value).toArray } } := L2.Inv.lnew (its := []) (t' := s2.toks) I .nil (zbr _)
 have hD1 : H1 s2.heap.objs.size = none := I.hok.fresh (zai _)
 refine x0_3 (R1.put (.lst []) hD1) fun R3 hFD h0D => ?_
 generalize hD : s2.heap.objs.size = D at *
 have nD : ∀ b ∈ fp, b ≠ D := fun b hb => by
  refine x1_1 (fo2 b hb) fun o e => ?_
  rw [<- hD]; exact zbc (zam e)
 generalize hs3 : ({ s2 with heap := s2.heap.push { cls := .type "list", data := .seq ([] : List Value).toArray } } : Shared) = s3 at *
 have k3 : ∀ b o, s2.heap.get? b = some o -> s3.heap.get? b = some o := fun b o e => by rw [<- hs3]; exact zaf _ e
 have tn3 : tn 0 s3.heap := T.keep 0 _ _ h0 fun b hb o e => k3 b o e
 have hfp3 : ∀ b ∈ fp, FpOk X pins (upd H1 D (.lst [])) b := fun b hb => ⟨by rw [zkp (nD b hb)]; exact (hfp b hb).1, (hfp b hb).2⟩
 have fo3 : ∀ b ∈ fp, ∃ o, s3.heap.get? b = some o := fun b hb => let ⟨o, e⟩ := fo2 b hb; ⟨o, k3 b o e⟩
 refine wpAny_newFunctionEnv hcell (by intro y hy; simp at hy) (fun h4 hns4 hsb4 => ?_) hk
 have k4 : ∀ b o, s3.heap.get? b = some o -> h4.get? b = some o := fun b o e => hsb4.extBut b o (zbc (zam e)) (zaf _ e)
 have J4 := yqp (t' := s3.toks + ([] : List (Str × Value)).length) (s' := s3) (N' := N') I3 hk hcell hfree rfl hfp3 fo3 hns4 k4 hl hv
 have tn4 : tn 0 h4 := T.keep 0 _ _ tn3 fun b hb o e => k4 b o e
 generalize hC : s3.heap.objs.size = C at *
 have CX : C ≠ X.env.locals /\ X.s₀.heap.objs.size <= C /\ (∀ x c, X.env.cells.lookup x = some c -> c ≠ C) /\ (∀ p ∈ X.pn ++ pins, p.1 ≠ C) := by
  refine x0_6 (I3.fpOk (H' := upd H1 D (.lst [])) (b := C) (ziv hC) (by rw [<- hC]; exact I3.hok.fresh (zai _))) fun _ b1 _ b3 b4 b5 => ?_
  exact ⟨b1, by rw [<- hC]; exact I3.sz, b4, b5⟩
 have R4 : ER X.K H0 Fc F1 (upd H1 D (.lst [])) σ' ρ0 := ⟨R3.sub, R3.same, R3.base, R3.new, hρ⟩
 have loop : codeAny (model X.prog X.w) X.A (.compLoop (.ListComp elt [⟨tg, iter, ifs, 0⟩] scope pos) 0 (.ref it) (.ref D) (compEnvC scope (cloF X.env.cells scope.names []) C X.env)) (RR (.ref D) C) { s3 with heap := h4, toks := s3.toks + ([] : List (Str × Value)).length } := by
  refine codeAny_loop rfl (CInv X scope C N' s3 H1 D fp tn items H0 Fc F1 ρ0 f res) ?_ (items.length + 1)
   ⟨0, σ', _, F1, [], [], res, J4, tn4, fun b hb => (hfp3 b hb).1, rfl, zbr _, R4, Same.refl _, hFD, zko, DenL.nil, hres, rfl, zbr _⟩
  rintro n s5 ⟨i, σ1, Ha, Fa, ys, done, rest, J5, tn5, fr5, rfl, hi, R5, sF5, hFD5, hD5, dn5, cl5, rs5, dl5⟩
  show wpAny _ X.A ((compTurn (.ListComp elt [⟨tg, iter, ifs, 0⟩] scope pos) 0 (.ref it) (.ref D) (compEnvC scope (cloF X.env.cells scope.names []) C X.env)).onRaise (fun x => do noteFrame x (compEnvC scope (cloF X.env.cells scope.names []) C X.env); theTreesLotGoes x)) _ _ s5
  refine wpAny_noted ?_
  rw [compTurn_list]
  have fx : ∀ {Hx : Hp}, (∀ b ∈ fp, Hx b = none) -> ∀ b ∈ fp, FpOk (blk X scope (cloF X.env.cells scope.names []) C N' s3 (upd H1 D (.lst [])) fp) [] Hx b := fun hn b hb => by
   refine ⟨hn b hb, ?_, ?_, .inl hb, ?_, fun p hp => nomatch hp⟩
   ·refine x1_1 (fo3 b hb) fun o e => ?_
    show b ≠ C
    rw [<- hC]; exact zbc (zam e)
   ·intro z
    rcases zan.mp (I.stkSub b z) with e | e
    ·exact (hfp b hb).2.1 e
    ·exact (hfp b hb).2.2.1 e
   ·intro x c h
    exact (hfp b hb).2.2.2.2.1 x c (zrc scope.names [] hfree (fun p hp => nomatch hp) _ (zlw h))
  have ff : ∀ {α : Type} {t : Sem α} {Q : α -> Shared -> Prop} {E' : Value -> Shared -> Prop} {s : Shared}, wpAny (model X.prog X.w) X.A t Q (fun _ _ => False) s -> wpAny (model X.prog X.w) X.A t Q E' s := fun h => zfd h (fun _ _ q => q) fun _ _ z => z.elim
  have wk5 := wk i Ha (sF5.trans R5.sub)
  refine zac (zga (zac ?_))
  by_cases hlt : i < items.length
  ·have hd : items[i]? = some items[i] := zae hlt
   rw [zdd hlt] at cl5
   refine x0_2 (wk5.1 _ hd) fun go yl => ?_
   refine ff (thn (T.item (blk X scope (cloF X.env.cells scope.names []) C N' s3 (upd H1 D (.lst [])) fp) rfl rfl rfl hcalm i [] s5 σ1 Ha (fun _ _ => False) J5 (fx fr5) tn5 go) fun r s6 hz => x1_2 hz fun u hr h6 => ?_)
   subst hr
   refine zac (ff (thn h6 fun _ s7 hz => x2_5 hz fun x H7 J7 r7 y7 tn7 fr7 => ?_))
   obtain ⟨F7, sF7, R7, q7, hD7, hFD7⟩ : ∃ F7, Same Fa F7 /\ ER X.K H0 Fc F7 H7 σ1 ρ0 /\ Den X.K F7 items[i] x /\ H7 D = some (.lst ys) /\ F7 D = none := by
    rcases yl x H7 y7 with ⟨e, q⟩ | ⟨p, xs, ds, hp, e, ex, ed, q⟩
    ·subst e; exact ⟨Fa, Same.refl _, R5, q.mono sF5, hD5, hFD5⟩
    ·subst e ex
     refine x0_2 (R5.lay (.tup xs) hp) fun R8 s8 => ?_
     have npD : D ≠ p := fun z => by subst z; rw [hD5] at hp; cases hp
     refine ⟨_, s8, R8, ?_, by rw [zkp npD]; exact hD5, by rw [zkp npD]; exact hFD5⟩
     rw [ed]
     exact Den.tup_mk (SqT.of zko) ((q.mono sF5).mono s8)
   have J8 := J7.pinned (fx fr7) (T.obj _ _ tn7)
   have fin : ∀ {s9 : Shared} {σ9 : L2.St} {H9 F9 : Hp} {zs : List V} {more left : List DL.D}, Inv (blk X scope (cloF X.env.cells scope.names []) C N' s3 (upd H1 D (.lst [])) fp) ([] ++ ztm fp s7.heap) σ9 H9 s9 -> ER X.K H0 Fc F9 H9 σ9 ρ0 -> Same F1 F9 -> F9 D = none -> H9 D = some (.lst zs) -> DenL X.K F9 more zs ->
     znp f (items.drop (i + 1)) = some left -> more ++ left = res -> more.length <= i + 1 ->
     ∃ m, m < items.length + 1 - i /\ CInv X scope C N' s3 H1 D fp tn items H0 Fc F1 ρ0 f res m s9 := by
    intro s9 σ9 H9 F9 zs more left J9 R9 sF9 hF9 hD9 dn9 cl9 rs9 dl9
    refine ⟨items.length + 1 - (i + 1), by omega, i + 1, σ9, H9, F9, zs, more, left, J9.unpinned, ?_, fun b hb => ?_, rfl, hlt, R9, sF9, hF9, hD9, dn9, cl9, rs9, dl9⟩
    ·exact T.keep _ _ _ tn7 fun b hb o e => (J9.pin (b, o) (zbo _ (zbo _ (zoa hb e)))).1
    ·refine x1_2 (T.obj _ _ tn7 b hb) fun o e _ => ?_
     exact (J9.pin (b, o) (zbo _ (zbo _ (zoa hb e)))).2.1
   unfold znp at cl5
   cases hf : f items[i] with
   | none => rw [hf] at cl5; cases cl5
   | some o =>
    rw [hf] at cl5
    refine x1_3 (hblk C s3 (upd H1 D (.lst [])) items[i] o (zhe hlt) hf) fun ρd hG hsub hO => ?_
    refine zac (ff (thn (hG H0 Fc _ s7 σ1 H7 x u (fun σ9 H9 => H9 = H7 /\ ER X.K H0 Fc F7 H7 σ9 ρd) J8 r7 ⟨J7.len, F7, R7, q7, fun σ9 hl9 R9 => ⟨rfl, R9⟩⟩) fun _ s8 hz => x2_3 hz fun σ9 H9 J9 e9 R9 => ?_))
    subst e9
    have tests : ∀ k, DTs (blk X scope (cloF X.env.cells scope.names []) C N' s3 (upd H1 D (.lst [])) fp) ifs ρd k ->
      wpAny (model X.prog X.w) X.A (forIn ifs true fun c r => if r = true then do let ok <- isTrue c (compEnvC scope (cloF X.env.cells scope.names []) C X.env) (eval c (compEnvC scope (cloF X.env.cells scope.names []) C X.env)); pure (ForInStep.yield ok) else pure (ForInStep.yield r))
       (fun ok s' => ok = k /\ ∃ H10 F10, Inv (blk X scope (cloF X.env.cells scope.names []) C N' s3 (upd H1 D (.lst [])) fp) ([] ++ ztm fp s7.heap) σ9 H10 s' /\ Same F7 F10 /\ ER X.K H9 F7 F10 H10 σ9 ρd) (fun _ _ => False) s8 := by
     intro k hk
     rcases hk with ⟨e1, e2⟩ | ⟨c, e1, hT⟩
     ·subst e1 e2
      exact wpAny_tests_nil ⟨rfl, H9, F7, J9, Same.refl _, R9.here⟩
     ·subst e1
      refine wpAny_tests_one (thn (hT H9 F7 _ s8 σ9 H9 (fun b H10 => b = k /\ ∃ F10, Same F7 F10 /\ ER X.K H9 F7 F10 H10 σ9 ρd) J9 ⟨F7, R9.here, fun H10 F10 s10 R10 => ⟨rfl, F10, s10, R10⟩⟩) fun b s' hz => xeaaeaa hz fun H10 J10 e10 F10 s10 R10 => ⟨e10, H10, F10, J10, s10, R10⟩)
    have dfree : ∀ {F10 H10 : Hp} {σ' : L2.St} {ρ' : Rho}, ER X.K H9 F7 F10 H10 σ' ρ' -> H10 D = some (.lst ys) /\ F10 D = none := fun {F10 H10 σ' ρ'} R10 => by
     refine ⟨R10.same D _ hD7, ?_⟩
     cases z : F10 D with
     | none => rfl
     | some o =>
      rcases R10.new D o z with w | w
      ·rw [hFD7] at w; cases w
      ·rw [hD7] at w; cases w
    cases o with
    | none =>
     refine zac (ff (thn (tests false hO) fun ok s9 hz => xaeeaaa hz fun eok H10 F10 J10 s10 R10 => ?_))
     subst eok
     refine x0_2 (dfree R10) fun hD10 hF10 => ?_
     refine zag ⟨rfl, fin J10 ((R9.there R10).fewer hsub) ((sF5.trans sF7).trans s10) hF10 hD10 ((dn5.mono sF7).mono s10) cl5 rs5 (by omega)⟩
    | some e =>
     refine x0_2 hO fun hT hE => ?_; clear hO
     refine x1_2 (zab.mp cl5) fun left hleft eleft => ?_
     subst eleft
     refine zac (ff (thn (tests true hT) fun ok s9 hz => xaeeaaa hz fun eok H10 F10 J10 s10 R10 => ?_))
     subst eok
     refine x0_2 (dfree R10) fun hD10 hF10 => ?_
     have R10' := R9.there R10
     rw [if_pos rfl]
     refine zac (zac (ff (thn (hE H10 F10 _ s9 σ9 H10 (fun v H11 => ∃ F11, Same F10 F11 /\ ER X.K H10 F10 F11 H11 σ9 ρd /\ Den X.K F11 e v) J10 ⟨F10, R10'.here, fun v H11 F11 s11 R11 q11 => ⟨F11, s11, R11, q11⟩⟩) fun uv s11 hz => xeeaaeaaa hz fun v H11 J11 r11 F11 sF11 R11 q11 => ?_)))
     have hD11 : H11 D = some (.lst ys) := R11.same D _ hD10
     have hF11 : F11 D = none := by
      cases z : F11 D with
      | none => rfl
      | some o =>
       rcases R11.new D o z with w | w
       ·rw [hF10] at w; cases w
       ·rw [hD10] at w; cases w
     have hyl : ys.length = done.length := dn5.length
     have R11' := R10'.there R11
     refine zac (ff (thn (zwt _ s11 σ9 H11 (.ref D) [v] (.ref D) [uv] (fun _ H12 => H12 = upd H11 D (.lst (ys ++ [v]))) J11 rfl (.cons r11 .nil) ⟨D, ys, v, rfl, rfl, hD11, by omega, rfl⟩) fun _ s12 hz => x2_3 hz fun _ H12 J12 _ e12 => ?_))
     subst e12
     refine zag (zag ⟨rfl, fin (zs := ys ++ [v]) (more := done ++ [e]) J12 ((R11'.mutF hF11 h0D).fewer hsub) (((sF5.trans sF7).trans s10).trans sF11) hF11 zko ((((dn5.mono sF7).mono s10).mono sF11).append (DenL.cons q11 DenL.nil)) hleft (by rw [zck]; exact rs5) (by rw [zap, zio]; omega)⟩)
  ·have e : i = items.length := by omega
   subst e
   rw [zkd] at cl5
   cases cl5
   rw [zdi] at rs5
   subst rs5
   refine ff (thn (T.done (blk X scope (cloF X.env.cells scope.names []) C N' s3 (upd H1 D (.lst [])) fp) rfl rfl rfl hcalm _ [] s5 σ1 Ha (fun _ _ => False) J5 (fx fr5) tn5 (wk5.2 (zai _))) fun r s6 hz => x0_2 hz fun hr J6 => ?_)
   subst hr
   refine x1_2 (J6.loc) fun m hnm _ => ?_
   refine zag (kend D C s6 Ha Fa ys m (yqq I3 hfp3 J6) hnm J6.free CX.1 CX.2.1 CX.2.2.1 CX.2.2.2 sF5 ⟨R5.sub, R5.same, R5.base, R5.new, fun j d e => ?_⟩ hFD5 h0D hD5 dn5)
   refine x1_2 (R1.env j d e) fun v g1 g2 => ?_
   exact ⟨v, g1, g2.mono sF5⟩
 exact codeAny_compStart_list loop (T.self _ 0 _ _ _ tn4 loop)
end
noncomputable def blkR {α : Type} (k : Nat) (fr : List Nat) (ρ : List (Option α)) : List (Option α) := List.replicate k none ++ fr.map fun i => (ρ[i]?).bind id
theorem zoe {α : Type} {k : Nat} {fr : List Nat} {ρ : List (Option α)} {i : Nat} {v : α} (h : (blkR k fr ρ)[i]? = some (some v)) : ∃ m j, i = k + m /\ fr[m]? = some j /\ ρ[j]? = some (some v) := by
 unfold blkR at h
 by_cases hi : i < k
 ·rw [zax (by rw [zbs]; exact hi), zcg] at h
  split at h <;> cases h
 ·rw [zao (by rw [zbs]; omega), zbs, zak] at h
  cases q : fr[i - k]? with
  | none => rw [q] at h; cases h
  | some j =>
   rw [q] at h
   refine ⟨i - k, j, by omega, q, ?_⟩
   have h2 : (ρ[j]?).bind id = some v := zbk h
   cases z : ρ[j]? with
   | none => rw [z] at h2; cases h2
   | some o => rw [z] at h2; cases o with
    | none => cases h2
    | some v' => exact congrArg some h2
theorem yge {α : Type} {k : Nat} {fr : List Nat} {ρ : List (Option α)} {m j : Nat} {v : α} (h1 : fr[m]? = some j) (h2 : ρ[j]? = some (some v)) : (blkR k fr ρ)[k + m]? = some (some v) := by
 unfold blkR
 rw [zao (by rw [zbs]; omega), zbs, zak, show k + m - k = m by omega, h1]
 simp [h2]
theorem yao {α : Type} {k : Nat} {fr : List Nat} {ρ : List (Option α)} : (blkR k fr ρ).length = k + fr.length := by
 unfold blkR
 rw [zap, zbs, zad]
end DL
namespace DL
open PySem L2 PyProof.Rows
section
variable {X : Cx} {e a b : Expr} {es : List Expr} {ρ : Rho} {pos : Pos} {w : W}
theorem yoi : OpR X (binaryOp .Add) (fun x y H Q => ∃ l b xs zs, x = .ref l /\ y = .ref b /\ SqL X.K H l xs /\ SqL X.K H b zs /\ xs.length + zs.length <= sizeLine /\ ∀ p, H p = none -> Q (.ref p) (upd H p (.lst (xs ++ zs)))) := by
 intro pins s σ H x y v u Q I rx ry h
 refine x4_6 h fun l b xs zs qz4 qz5 hH hB hz q => ?_; clear h; subst qz4; subst qz5
 cases rx
 cases ry
 refine x1_3 (I.list hH) fun its r pl z1 => ?_
 refine x1_3 (I.list hB) fun its2 r2 pl2 z2 => ?_
 obtain ⟨⟨cl1, dd1, dt1, sl1⟩, n, ho, hc, hd0, hd⟩ := pl
 obtain ⟨⟨cl2, dd2, dt2, sl2⟩, n2, ho2, hc2, hd02, hd2⟩ := pl2
 cases hc; cases hd; cases hc2; cases hd2
 have l1 := r.length
 have l2 := r2.length
 have ea : its.toArray ++ its2.toArray = (its ++ its2).toArray := by simp
 refine concat_meets ⟨_, ho, rfl⟩ ⟨_, ho2, rfl⟩ noFill_list_add seq_list_add PySem.F.slot_list_add PySem.F.entry_list_add (PySem.F.args_list_add_2 _ _) (list_addW l b its.toArray its2.toArray n n2 dd1 dd2 sl1 sl2 (by simp only [zau]; omega)) ⟨ho, ho2, ?_⟩
 rw [ea]
 exact ⟨.ref _, _, I.lnew (t' := s.toks) (r.append r2) (by rw [zap]; omega), rfl, q _ I.fresh⟩
theorem DE.cat {l m : List D} (ha : DF X a ρ (.lst l)) (hb : DF X b ρ (.lst m)) (hl : l.length + m.length <= sizeLine) : DE X (.BinOp a .Add b pos) ρ (.new (l ++ m)) := fun H0 Fc =>
 PE.mono (ynw yoi (ha H0 Fc) (hb H0 Fc)) (zof fun H F σ v u Q R qv qu k => by
  refine x2_3 (qv.lst) fun p xs e1 sq r => ?_
  refine x2_3 (qu.lst) fun p2 ys e2 sq2 r2 => ?_
  subst e1; subst e2
  refine ⟨p, p2, xs, ys, rfl, rfl, R.sub.seq sq, R.sub.seq sq2, by rw [r.length, r2.length]; exact hl, fun q hq => ?_⟩
  refine x0_3 (R.put (.lst (xs ++ ys)) hq) fun R4 hF h0 => ?_
  exact k _ _ _ (Same.refl _) R4 (RW.n hF h0 zko (r.append r2)))
theorem ykg {l : List D} : ztf X (.type "list") [.lst l] (.new l) := ⟨_, zqe, fun H0 Fc H F σ ρ vs Q R q k => by
 refine x1_2 (q.one) fun v e q => ?_
 refine x2_3 (q.lst) fun p xs e1 sq r => ?_
 rw [e1] at e
 refine ⟨p, xs, e, .inl (R.sub.seq sq), fun p2 hp => ?_⟩
 refine x0_3 (R.put (.lst xs) hp) fun R4 hF h0 => ?_
 exact k _ _ _ (Same.refl _) R4 (RW.n hF h0 zko r)⟩
theorem ygc {l : List D} : ztf X (.type "list") [.tup l] (.new l) := ⟨_, zqe, fun H0 Fc H F σ ρ vs Q R q k => by
 refine x1_2 (q.one) fun v e q => ?_
 refine x2_3 (q.tup) fun p xs e1 sq r => ?_
 rw [e1] at e
 refine ⟨p, xs, e, .inr (Same.tup R.sub sq), fun p2 hp => ?_⟩
 refine x0_3 (R.put (.lst xs) hp) fun R4 hF h0 => ?_
 exact k _ _ _ (Same.refl _) R4 (RW.n hF h0 zko r)⟩
theorem yqm {i j : Int} (hc : X.calm = true) : ztf X (.builtin "min") [.int i, .int j] (.val (.int (if j < i then j else i))) := ⟨_, yga hc, fun H0 Fc H F σ ρ vs Q R q k => by
 refine x2_3 (q.two) fun v u e q1 q2 => ?_
 rw [q1.int, q2.int] at e
 exact ⟨i, j, e, k _ H F (Same.refl _) R RW.int⟩⟩
theorem yqn {i j : Int} (hc : X.calm = true) : ztf X (.builtin "max") [.int i, .int j] (.val (.int (if i < j then j else i))) := ⟨_, ygb hc, fun H0 Fc H F σ ρ vs Q R q k => by
 refine x2_3 (q.two) fun v u e q1 q2 => ?_
 rw [q1.int, q2.int] at e
 exact ⟨i, j, e, k _ H F (Same.refl _) R RW.int⟩⟩
end
section
variable {X : Cx} {e : Expr} {ρ : RhoS} {pos : Pos}
theorem zpl {K : PySem.W.Frag} {H0 Fc F H : Hp} {σ : L2.St} (S : SR K H0 Fc F H σ ρ) {i : Nat} {l : List D} (h : ρ[i]? = some (some (.ow l))) : ∃ a xs, σ[i]? = some (some (.ref a)) /\ H a = some (.lst xs) /\ DenL K F l xs := by
 refine x2_5 (S.own i l h) fun a xs p _ _ p3 p4 => ?_
 exact ⟨a, xs, p, p3, p4⟩
theorem DS.app {i : Nat} {x : Str} {l : List D} {d : D} {p ap cp ep : Pos} (hN : X.N[i]? = some x) (hv : Vis X.env.scope x) (hd : (x == ("__debug__" : Str)) = false) (hcd : (x == ("__classdict__" : Str)) = false) (hr : ρ[i]? = some (some (.ow l))) (he : DE X e (view ρ) (.val d)) (hs : zki e = true) (hf : lf d = true) (hz : l.length < sizeLine)
  (hline : (ap.endLine == cp.line) = true) : DS X (.Expr (.Call (.Attribute (.Name x p) "append" ap) [e] [] cp) ep) ρ (.nx (ρ.set i (some (.ow (l ++ [d]))))) := fun H0 Fc =>
 PS.mono (zxz (pe_bm zhk slot_list_append F.type_list_append zwt (zpz hN hv hd hcd) (zry (he H0 Fc) yea (zkm hs)) rfl (by rw [zkm hs]; rfl) hline (zkm hs) rfl) rfl) fun D σ H ⟨F, S, k⟩ => by
  obtain ⟨a, xs, h1, h2, h3⟩ := zpl S hr
  obtain ⟨s0, R⟩ := S.borrow
  refine ⟨_, h1, .inl ⟨rfl, xs, SqL.of h2⟩, _, R, fun v H2 F2 s2 R2 q => ?_⟩
  obtain ⟨F3, s3, S3, q3⟩ := S.back s2 R2 q hf
  obtain ⟨a', xs', g1, g2, g3⟩ := zpl S3 hr
  rw [h1] at g1
  cases g1
  have e3 : H2 a = some (.lst xs) := by
   have := s2 a (.lst xs) (by unfold DL.borrow; rw [if_pos ⟨i, l, hr, h1⟩]; exact h2)
   exact R2.sub _ _ this
  rw [e3] at g2
  cases g2
  refine ⟨a, xs, v, rfl, rfl, e3, by rw [h3.length]; exact hz, k σ _ F3 s3 (S3.mut hr h1 (g3.append (DenL.cons q3 DenL.nil)))⟩
theorem yjw {K : PySem.W.Frag} {F : Hp} {l : List D} {xs : List V} (h : DenL K F l xs) (hl : l ≠ []) : ∃ y, xs[xs.length - 1]? = some y /\ DenL K F l.dropLast xs.dropLast := by
 have hn : 0 < l.length := List.length_pos_iff.mpr hl
 have hd := h.take (l.length - 1)
 refine ⟨xs[xs.length - 1]'(by rw [h.length]; omega), zae _, ?_⟩
 rw [zdq, zdq, h.length]
 exact hd
theorem DS.pop {i : Nat} {x : Str} {l : List D} {p ap cp ep : Pos} (hN : X.N[i]? = some x) (hv : Vis X.env.scope x) (hd : (x == ("__debug__" : Str)) = false) (hcd : (x == ("__classdict__" : Str)) = false) (hr : ρ[i]? = some (some (.ow l))) (hl : l ≠ []) (hline : (ap.endLine == cp.line) = true) :
  DS X (.Expr (.Call (.Attribute (.Name x p) "pop" ap) [] [] cp) ep) ρ (.nx (ρ.set i (some (.ow l.dropLast)))) := fun H0 Fc =>
 PS.mono (zxz (ylj zhk F.slot_list_pop F.type_list_pop mt_pop (zpz hN hv hd hcd) rfl hline) rfl) fun D σ H hz => x1_2 hz fun F S k => by
  refine x2_3 (zpl S hr) fun a xs h1 h2 h3 => ?_
  refine x1_2 (yjw h3 hl) fun y g1 g2 => ?_
  exact ⟨_, h1, .inl ⟨rfl, xs, SqL.of h2⟩, a, xs, y, rfl, rfl, h2, g1, k σ _ F (Same.refl _) (S.mut hr h1 g2)⟩
theorem DS.clr {i : Nat} {x : Str} {l : List D} {p ap cp ep : Pos} (hN : X.N[i]? = some x) (hv : Vis X.env.scope x) (hd : (x == ("__debug__" : Str)) = false) (hcd : (x == ("__classdict__" : Str)) = false) (hr : ρ[i]? = some (some (.ow l))) (hline : (ap.endLine == cp.line) = true) :
  DS X (.Expr (.Call (.Attribute (.Name x p) "clear" ap) [] [] cp) ep) ρ (.nx (ρ.set i (some (.ow [])))) := fun H0 Fc =>
 PS.mono (zxz (ylj zhk F.slot_list_clear F.type_list_clear yis (zpz hN hv hd hcd) rfl hline) rfl) fun D σ H hz => x1_2 hz fun F S k => by
  refine x2_3 (zpl S hr) fun a xs h1 h2 h3 => ?_
  exact ⟨_, h1, .inl ⟨rfl, xs, SqL.of h2⟩, a, xs, rfl, rfl, h2, k σ _ F (Same.refl _) (S.mut hr h1 DenL.nil)⟩
theorem DenL.set {K : PySem.W.Frag} {F : Hp} {d : D} {v : V} (q : Den K F d v) : ∀ {l : List D} {xs : List V} (n : Nat), DenL K F l xs -> DenL K F (l.set n d) (xs.set n v)
 | [], _, n, h => by rw [h.inv_nil]; simpa using DenL.nil
 | e :: l, _, 0, h => by
  refine x2_3 (h.inv_cons) fun u us z q1 r => ?_
  subst z
  exact DenL.cons q r
 | e :: l, _, n + 1, h => by
  refine x2_3 (h.inv_cons) fun u us z q1 r => ?_
  subst z
  exact DenL.cons q1 (DenL.set q n r)
theorem DS.seti {i n : Nat} {x : Str} {l : List D} {d : D} {j : Int} {p sp ep : Pos} {k : Expr} (hN : X.N[i]? = some x) (hv : Vis X.env.scope x) (hd : (x == ("__debug__" : Str)) = false) (hcd : (x == ("__classdict__" : Str)) = false) (hr : ρ[i]? = some (some (.ow l))) (he : DE X e (view ρ) (.val d)) (hk : DF X k (view ρ) (.int j)) (hf : lf d = true) (hj : ixN l.length j = some n)
  (hsl : znz k = true) (hsw : swapsWithSole [.Subscript (.Name x p) k sp] e ep.line X.env = pure false) (hw : swappedStores [.Subscript (.Name x p) k sp] e X.env = pure none) : DS X (.Assign [.Subscript (.Name x p) k sp] e ep) ρ (.nx (ρ.set i (some (.ow (l.set n d))))) := fun H0 Fc =>
 PS.mono (ylh (he H0 Fc) (pg_sub (zpz hN hv hd hcd) (hk H0 Fc) yht (by intro v; cases k <;> first | rfl | (cases hsl; done))) hsw hw rfl) fun D σ H hz => x1_2 hz fun F S kk => by
  refine x2_3 (zpl S hr) fun a xs h1 h2 h3 => ?_
  refine x0_2 (S.borrow) fun s0 R => ?_
  have ow : Owned σ ρ a := ⟨i, l, hr, h1⟩
  refine ⟨_, R, fun v H2 F2 s2 R2 q => ?_⟩
  refine ⟨.ref a, h1, F2, R2, fun kv H3 F3 s3 R3 q3 => ?_⟩
  refine x1_3 (S.back (s2.trans s3) R3 (show RW X.K H0 F3 H3 (.val d) v from Den.mono s3 d q) hf) fun F4 s4 S4 q4 => ?_
  refine x2_3 (zpl S4 hr) fun a' xs' g1 g2 g3 => ?_
  rw [h1] at g1
  cases g1
  have e3 : H3 a = some (.lst xs) := by
   have := (s2.trans s3) a (.lst xs) (by unfold DL.borrow; rw [if_pos ow]; exact h2)
   exact R3.sub _ _ this
  rw [e3] at g2
  cases g2
  refine ⟨a, xs, j, n, rfl, q3.int, e3, by rw [h3.length]; exact hj, kk σ _ F4 s4 (S4.mut hr h1 (DenL.set q4 n g3))⟩
end
end DL
namespace DL
open PySem
theorem zwl {xs : Array Nat} (hr : xs.toList.Pairwise (· < ·)) {a b x y : Nat} (h : a < b) (ha : xs[a]? = some x) (hb : xs[b]? = some y) : x < y := by
 rw [<- zas] at ha hb
 refine x1_1 (zal.mp ha) fun la ea => ?_
 refine x1_1 (zal.mp hb) fun lb eb => ?_
 have := zfh.mp hr a b la lb h
 rw [ea, eb] at this
 exact this
noncomputable def Cut (xs : Array Nat) (j p : Nat) : Prop := p <= xs.size /\ (∀ i x, i < p -> xs[i]? = some x -> x < j) /\ (∀ i x, p <= i -> xs[i]? = some x -> j <= x)
theorem zvf {xs : Array Nat} {j : Nat} (hr : xs.toList.Pairwise (· < ·)) : ∀ (fuel lo hi : Nat), lo <= hi -> hi <= xs.size -> hi - lo <= fuel -> (∀ i x, i < lo -> xs[i]? = some x -> x < j) -> (∀ i x, hi <= i -> xs[i]? = some x -> j <= x) ->
  Cut xs j (SetTable.below.go xs j fuel lo hi)
 | 0, lo, hi, h1, h2, h3, h4, h5 => by
  have : lo = hi := by omega
  subst this
  exact ⟨h2, h4, h5⟩
 | fuel + 1, lo, hi, h1, h2, h3, h4, h5 => by
  unfold SetTable.below.go
  by_cases hl : lo < hi
  ·rw [if_pos hl]
   have hm : (lo + hi) / 2 < xs.size := by omega
   have e : xs[(lo + hi) / 2]? = some (xs[(lo + hi) / 2]) := by simp [hm]
   have eg : xs.getD ((lo + hi) / 2) j = xs[(lo + hi) / 2] := by simp [Array.getD, hm]
   dsimp only
   rw [eg]
   by_cases hj : xs[(lo + hi) / 2] < j
   ·rw [if_pos hj]
    refine zvf hr fuel _ _ (by omega) h2 (by omega) (fun i x hi' hx => ?_) h5
    by_cases hh : i = (lo + hi) / 2
    ·subst hh; rw [e] at hx; cases hx; exact hj
    ·exact Nat.lt_trans (zwl hr (by omega) hx e) hj
   ·rw [if_neg hj]
    refine zvf hr fuel _ _ (by omega) (by omega) (by omega) h4 (fun i x hi' hx => ?_)
    by_cases hh : i = (lo + hi) / 2
    ·subst hh; rw [e] at hx; cases hx; omega
    ·have := zwl hr (show (lo + hi) / 2 < i by omega) e hx
     omega
  ·rw [if_neg hl]
   have : lo = hi := by omega
   subst this
   exact ⟨h2, h4, h5⟩
theorem zph {xs : Array Nat} {j : Nat} (hr : xs.toList.Pairwise (· < ·)) : Cut xs j (SetTable.below xs j) :=
 zvf hr _ _ _ (zbr _) (zai _) (by omega) (fun i x h => by omega) fun i x h e => by
  have : xs[i]? = none := by simp [h]
  rw [this] at e; cases e
theorem ykk {xs : Array Nat} {i j : Nat} (hr : xs.toList.Pairwise (· < ·)) (h : xs[i]? = some j) : SetTable.below xs j = i := by
 refine x0_3 (zph (j := j) hr) fun a b c => ?_
 have h1 : ¬ i < SetTable.below xs j := fun q => Nat.lt_irrefl _ (b i j q h)
 rcases zgf (SetTable.below xs j) i with q | q
 ·have hi : i < xs.size := (zbt.mp h).1
  have e : xs[SetTable.below xs j]? = some (xs[SetTable.below xs j]'(by omega)) := zat _
  have := zwl hr q e h
  have := c _ _ (zai _) e
  omega
 ·omega
theorem ygj {xs : Array Nat} {j : Nat} (h : j ∉ xs.toList) : (xs[SetTable.below xs j]? == some j) = false := by
 cases e : xs[SetTable.below xs j]? with
 | none => rfl
 | some x =>
  by_cases q : x = j
  ·subst q
   exact absurd (zar (by rw [zas]; exact e)) h
  ·simpa using q
theorem zlz {t : SetTable} {i j : Nat} (hr : t.place.toList.Pairwise (· < ·)) (h : t.place[i]? = some j) : t.slot j = .live i := by
 unfold SetTable.slot
 rw [ykk hr h]
 simp [h]
theorem yfc (j : Nat) : SetTable.has #[] j = false := rfl
theorem ybc {t : SetTable} {j : Nat} (hd : t.dummies = #[]) (h : j ∉ t.place.toList) : t.slot j = .empty := by
 unfold SetTable.slot
 dsimp only
 rw [ygj h, hd, yfc]
 rfl
theorem ynq {xs : Array Nat} {j : Nat} (hr : xs.toList.Pairwise (· < ·)) (h : j ∉ xs.toList) : (SetTable.insertAt xs (SetTable.below xs j) j).toList.Pairwise (· < ·) := by
 refine x0_3 (zph (j := j) hr) fun a b c => ?_
 rw [zhi]
 have hr' := hr
 rw [<- zen (SetTable.below xs j) xs.toList, ziy] at hr'
 rw [ziy, zcf]
 have h1 : ∀ x ∈ xs.toList.take (SetTable.below xs j), x < j := fun x hx => by
  refine x1_1 (zct hx) fun i hi => ?_
  rw [zjj] at hi
  split at hi
  ·rename_i q
   exact b i x q (by rw [<- zas]; exact hi)
  ·cases hi
 have h2 : ∀ x ∈ xs.toList.drop (SetTable.below xs j), j < x := fun x hx => by
  refine x1_1 (zct hx) fun i hi => ?_
  rw [zgo] at hi
  have := c (SetTable.below xs j + i) x (by omega) (by rw [<- zas]; exact hi)
  have : x ≠ j := fun e => h (by rw [<- e]; exact List.mem_of_mem_drop hx)
  omega
 refine ⟨hr'.1, ⟨h2, hr'.2.1⟩, fun x hx y hy => ?_⟩
 rcases zan.mp hy with e | hy
 ·rw [e]; exact h1 x hx
 ·exact Nat.lt_trans (h1 x hx) (h2 y hy)
noncomputable def yba (mask : Nat) (p : SetTable.Probe) : SetTable.Probe :=
 if p.more > 0 then { p with j := p.j + 1, more := p.more - 1 } else
 { p with j := (SetTable.leap mask p.i p.perturb).1, more := SetTable.runEnd mask (SetTable.leap mask p.i p.perturb).1 - (SetTable.leap mask p.i p.perturb).1, i := (SetTable.leap mask p.i p.perturb).1, perturb := (SetTable.leap mask p.i p.perturb).2 }
noncomputable def ybh (mask i p : Nat) : SetTable.Probe := { j := i, more := SetTable.runEnd mask i - i, i := i, perturb := p, dummy := none }
noncomputable def way (mask : Nat) (h : Int) : Nat -> SetTable.Probe
 | 0 => ybh mask (SetTable.bits h % (mask + 1)) (SetTable.bits h)
 | n + 1 => yba mask (way mask h n)
noncomputable def lp (mask : Nat) (h : Int) : Nat -> Nat × Nat
 | 0 => (SetTable.bits h % (mask + 1), SetTable.bits h)
 | l + 1 => SetTable.leap mask (lp mask h l).1 (lp mask h l).2
theorem zov {mask i : Nat} (h : i <= mask) : SetTable.runEnd mask i <= mask /\ SetTable.runEnd mask i - i <= 9 /\ i <= SetTable.runEnd mask i := by
 unfold SetTable.runEnd; split <;> omega
theorem yer (mask i p : Nat) : (SetTable.leap mask i p).1 <= mask := by
 unfold SetTable.leap
 exact zka (zel _ (ziu _))
theorem yiw (mask : Nat) (h : Int) : ∀ l, (lp mask h l).1 <= mask
 | 0 => zka (zel _ (ziu _))
 | l + 1 => yer _ _ _
theorem yce (mask : Nat) (h : Int) : ∀ n, (way mask h n).j + (way mask h n).more <= mask /\ (way mask h n).dummy = none
 | 0 => by
  have := zov (yiw mask h 0)
  exact ⟨show (lp mask h 0).1 + (SetTable.runEnd mask (lp mask h 0).1 - (lp mask h 0).1) <= mask by omega, rfl⟩
 | n + 1 => by
  refine x0_2 (yce mask h n) fun a b => ?_
  unfold way yba
  split
  ·exact ⟨by dsimp only; omega, b⟩
  ·have := zov (yer mask (way mask h n).i (way mask h n).perturb)
   exact ⟨by dsimp only; omega, b⟩
theorem ykw (mask : Nat) (h : Int) (n : Nat) : (way mask h n).j <= mask := by
 have := (yce mask h n).1
 omega
theorem zxu {mask i p n : Nat} {h : Int} (e : way mask h n = ybh mask i p) : ∀ k, k <= SetTable.runEnd mask i - i -> way mask h (n + k) = { j := i + k, more := SetTable.runEnd mask i - i - k, i := i, perturb := p, dummy := none }
 | 0, _ => e
 | k + 1, hk => by
  have ih := zxu e k (by omega)
  show yba mask (way mask h (n + k)) = _
  rw [ih]
  unfold yba
  rw [if_pos (by dsimp only; omega)]
  simp only [Nat.add_assoc, Nat.sub_sub]
theorem zyw {mask i p n : Nat} {h : Int} (e : way mask h n = ybh mask i p) : way mask h (n + (SetTable.runEnd mask i - i) + 1) = ybh mask (SetTable.leap mask i p).1 (SetTable.leap mask i p).2 := by
 have ih := zxu e _ (zai _)
 show yba mask (way mask h (n + (SetTable.runEnd mask i - i))) = _
 rw [ih]
 unfold yba
 rw [if_neg (by dsimp only; omega)]
 rfl
theorem zyv (mask : Nat) (h : Int) : ∀ l, ∃ n, n <= 10 * l /\ way mask h n = ybh mask (lp mask h l).1 (lp mask h l).2
 | 0 => ⟨0, zai _, rfl⟩
 | l + 1 => by
  refine x1_2 (zyv mask h l) fun n hn e => ?_
  have := zov (yiw mask h l)
  exact ⟨_, by omega, zyw e⟩
noncomputable def orb (m : Nat) : Nat -> Nat -> Nat
 | 0, a => a
 | t + 1, a => (orb m t a * 5 + 1) % (m + 1)
theorem zrz (m : Nat) (s a : Nat) : ∀ t, orb m (s + t) a = orb m t (orb m s a)
 | 0 => rfl
 | t + 1 => by
  show (orb m (s + t) a * 5 + 1) % (m + 1) = _
  rw [zrz m s a t]; rfl
noncomputable def orbL (m : Nat) : Nat -> Nat -> List Nat
 | 0, _ => []
 | t + 1, a => a :: orbL m t ((a * 5 + 1) % (m + 1))
theorem yio (m a : Nat) (t : Nat) : orb m (t + 1) a = orb m t ((a * 5 + 1) % (m + 1)) := by
 rw [ziw]; exact zrz m 1 a t
theorem zun {m : Nat} : ∀ {t a b : Nat}, b ∈ orbL m t a -> ∃ s, s < t /\ orb m s a = b
 | 0, _, _, h => by cases h
 | t + 1, a, b, h => by
  rcases zan.mp h with e | h
  ·exact ⟨0, ziu _, e.symm⟩
  ·refine x1_2 (zun h) fun s h1 h2 => ?_
   exact ⟨s + 1, by omega, by rw [yio]; exact h2⟩
noncomputable def okM (m : Nat) : Prop := m = 7 ∨ m = 31 ∨ m = 127
noncomputable def memB (b : Nat) : List Nat -> Bool
 | [] => false
 | x :: l => cond (Nat.beq b x) true (memB b l)
theorem zzs {b : Nat} : ∀ {l : List Nat}, memB b l = true -> b ∈ l
 | [], h => by cases h
 | x :: l, h => by
  unfold memB at h
  cases e : Nat.beq b x with
  | true => rw [Nat.eq_of_beq_eq_true e]; exact .head _
  | false => rw [e] at h; exact .tail _ (zzs h)
noncomputable def zre (l : List Nat) : Nat -> Bool
 | 0 => true
 | n + 1 => cond (memB n l) (zre l n) false
theorem znw {l : List Nat} : ∀ {n b : Nat}, zre l n = true -> b < n -> b ∈ l
 | 0, _, _, h => by omega
 | n + 1, b, h, hb => by
  unfold zre at h
  cases e : memB n l with
  | false => rw [e] at h; cases h
  | true =>
   rw [e] at h
   by_cases q : b = n
   ·subst q; exact zzs e
   ·exact znw h (by omega)
theorem yin {m : Nat} (h : okM m) : orb m (m + 1) 0 = 0 /\ zre (orbL m (m + 1) 0) (m + 1) = true := by
 rcases h with h | h | h <;> (subst h; exact ⟨by decide +kernel, by decide +kernel⟩)
theorem yof {m a b : Nat} (h : okM m) (ha : a <= m) (hb : b <= m) : ∃ t, t <= m /\ orb m t a = b := by
 refine x0_2 (yin h) fun h0 h1 => ?_
 obtain ⟨s, hs, es⟩ := zun (znw h1 (show a < m + 1 by omega))
 obtain ⟨t, ht, et⟩ := zun (znw h1 (show b < m + 1 by omega))
 by_cases q : s <= t
 ·refine ⟨t - s, by omega, ?_⟩
  rw [<- es, <- zrz, show s + (t - s) = t by omega]; exact et
 ·refine ⟨m + 1 + t - s, by omega, ?_⟩
  rw [<- es, <- zrz, show s + (m + 1 + t - s) = m + 1 + t by omega, zrz, h0]; exact et
theorem ylr (mask : Nat) (h : Int) : ∀ l, (lp mask h l).2 = SetTable.bits h / 32 ^ l
 | 0 => by simp [lp]
 | l + 1 => by
  show (lp mask h l).2 / 32 = _
  rw [ylr mask h l, zim, zhc]
theorem yqr (h : Int) : SetTable.bits h < 2 ^ 64 := by
 unfold SetTable.bits
 have := zbi h (show (0 : Int) < 2 ^ 64 by decide)
 have := zbf h (show (2 : Int) ^ 64 ≠ 0 by decide)
 omega
theorem yen (mask : Nat) (h : Int) : ∀ t, (lp mask h (12 + t)).1 = orb mask t (lp mask h 12).1
 | 0 => rfl
 | t + 1 => by
  show (SetTable.leap mask (lp mask h (12 + t)).1 (lp mask h (12 + t)).2).1 = _
  have e : (lp mask h (12 + t)).2 / 32 = 0 := by
   rw [ylr, zim]
   refine Nat.div_eq_of_lt (zaq (yqr h) ?_)
   have h1 : (32 : Nat) ^ 13 <= 32 ^ (12 + t) * 32 := by
    rw [<- zhc]
    exact zdg (by decide) (by omega)
   exact zcb (by decide) h1
  unfold SetTable.leap
  rw [e, yen mask h t]
  rfl
theorem yls {m b : Nat} (hm : okM m) (h : Int) (hb : b <= m) : ∃ l, l <= m + 12 /\ (lp m h l).1 = b := by
 refine x1_2 (yof hm (yiw m h 12) hb) fun t ht e => ?_
 exact ⟨12 + t, by omega, by rw [yen]; exact e⟩
theorem ymj {m b : Nat} (hm : okM m) (h : Int) (hb : b <= m) : ∃ n, n <= 10 * (m + 12) /\ (way m h n).j = b := by
 refine x1_2 (yls hm h hb) fun l hl e => ?_
 refine x1_2 (zyv m h l) fun n hn e2 => ?_
 exact ⟨n, by omega, by rw [e2]; exact e⟩
theorem yab : ∀ {n : Nat} {l : List Nat}, (∀ j, j < n -> j ∈ l) -> n <= l.length
 | 0, _, _ => zbr _
 | n + 1, l, h => by
  have hn := h n (zhj n)
  have := yab (n := n) (l := l.erase n) fun j hj => (List.mem_erase_of_ne (by omega)).mpr (h j (by omega))
  have e := List.length_erase_of_mem hn
  have : 0 < l.length := List.length_pos_of_mem hn
  omega
theorem room {l : List Nat} {m : Nat} (h : l.length <= m) : ∃ j, j <= m /\ j ∉ l := by
 refine zcw fun q => ?_
 have := yab (n := m + 1) (l := l) fun j hj => zcw fun z => q ⟨j, by omega, z⟩
 omega
theorem least {P : Nat -> Prop} : ∀ {n : Nat}, P n -> ∃ m, m <= n /\ P m /\ ∀ k, k < m -> ¬ P k := by
 intro n
 induction n using Nat.strongRecOn with
 | ind n ih =>
  intro h
  by_cases q : ∃ k, k < n /\ P k
  ·refine x1_2 q fun k hk pk => ?_; clear q
   refine x1_3 (ih k hk pk) fun m a b c => ?_
   exact ⟨m, by omega, b, c⟩
  ·exact ⟨n, zai _, h, fun k hk pk => q ⟨k, hk, pk⟩⟩
theorem zzh {t : SetTable} {hashAt : Nat -> Int} {h : Int} (hd : t.dummies = #[]) (hr : t.place.toList.Pairwise (· < ·)) {n0 : Nat} (hstop : (way t.mask h n0).j ∉ t.place.toList ∨ ∃ i, t.place[i]? = some (way t.mask h n0).j /\ hashAt i = h) :
  ∀ (fuel n : Nat), n <= n0 -> n0 - n < fuel -> (∀ m, n <= m -> m < n0 -> ∃ i : Nat, t.place[i]? = some (way t.mask h m).j) ->
   (∃ m i, n <= m /\ m <= n0 /\ t.place[i]? = some (way t.mask h m).j /\ hashAt i = h /\ SetTable.probe.go t hashAt h fuel (way t.mask h n) = some (.candidate (way t.mask h m).j i (way t.mask h (m + 1)))) ∨
   ((way t.mask h n0).j ∉ t.place.toList /\ SetTable.probe.go t hashAt h fuel (way t.mask h n) = some (.empty (way t.mask h n0).j none))
 | 0, n, h1, h2, _ => by omega
 | fuel + 1, n, h1, h2, h3 => by
  by_cases hn : n = n0
  ·subst hn
   rcases hstop with q | ⟨i, q, e⟩
   ·refine .inr ⟨q, ?_⟩
    unfold SetTable.probe.go
    rw [ybc hd q]
    dsimp only
    rw [(yce t.mask h n).2]
   ·refine .inl ⟨n, i, h1, zai _, q, e, ?_⟩
    unfold SetTable.probe.go
    rw [zlz hr q]
    dsimp only
    rw [if_pos (by simpa using e)]
    rfl
  ·refine x1_1 (h3 n (zai _) (by omega)) fun i q => ?_
   by_cases e : hashAt i = h
   ·refine .inl ⟨n, i, zai _, h1, q, e, ?_⟩
    unfold SetTable.probe.go
    rw [zlz hr q]
    dsimp only
    rw [if_pos (by simpa using e)]
    rfl
   ·have ih := zzh hd hr hstop fuel (n + 1) (by omega) (by omega) fun m a b => h3 m (by omega) b
    have e2 : SetTable.probe.go t hashAt h (fuel + 1) (way t.mask h n) = SetTable.probe.go t hashAt h fuel (way t.mask h (n + 1)) := by
     conv => lhs; unfold SetTable.probe.go
     rw [zlz hr q]
     dsimp only
     rw [if_neg (by simpa using e)]
     rfl
    rw [e2]
    rcases ih with ⟨m, i', a, b, c, d, f⟩ | ⟨a, b⟩
    ·exact .inl ⟨m, i', by omega, b, c, d, f⟩
    ·exact .inr ⟨a, b⟩
end DL
namespace DL
open PySem
structure TOk (t : SetTable) (es : Array (Int × Value)) : Prop where
 mask : okM t.mask
 dum : t.dummies = #[]
 ris : t.place.toList.Pairwise (· < ·)
 size : t.place.size = es.size
 le : ∀ j ∈ t.place.toList, j <= t.mask
 wy : ∀ (i : Nat) (h : Int) (v : Value), es[i]? = some (h, v) -> ∃ n, n <= 10 * (t.mask + 13) /\ t.place[i]? = some (DL.way t.mask h n).j /\ ∀ n', n' < n -> (DL.way t.mask h n').j ∈ t.place.toList
theorem ins_get {α : Type} {l : List α} {p : Nat} {x : α} (hp : p <= l.length) (i : Nat) : (l.take p ++ x :: l.drop p)[i]? = if i < p then l[i]? else if i = p then some x else l[i - 1]? := by
 have hlen : (l.take p).length = p := by rw [zeb]; omega
 by_cases h1 : i < p
 ·rw [if_pos h1, zax (by rw [hlen]; exact h1), zjj, if_pos h1]
 ·rw [if_neg h1, zao (by rw [hlen]; omega), hlen]
  by_cases h2 : i = p
  ·subst h2; simp
  ·rw [if_neg h2]
   obtain ⟨k, hk⟩ : ∃ k, i - p = k + 1 := ⟨i - p - 1, by omega⟩
   rw [hk, zch, zgo]
   congr 1; omega
theorem yaa {α : Type} {l : Array α} {p : Nat} {x : α} (hp : p <= l.size) (i : Nat) : (SetTable.insertAt l p x)[i]? = if i < p then l[i]? else if i = p then some x else l[i - 1]? := by
 rw [<- zas, zhi, ins_get (by simpa using hp)]
 simp only [zas]
theorem put_eq {t : SetTable} (hd : t.dummies = #[]) (j : Nat) : t.put j = ({ t with place := SetTable.insertAt t.place (SetTable.below t.place j) j }, SetTable.below t.place j) := by
 unfold SetTable.put
 dsimp only
 rw [hd, yfc]
 simp only [zay, if_false]
theorem TOk.put {t : SetTable} {es : Array (Int × Value)} (T : TOk t es) {h : Int} {x : Value} {n : Nat} (hn : n <= 10 * (t.mask + 13)) (hj : (way t.mask h n).j ∉ t.place.toList) (hb : ∀ n', n' < n -> (way t.mask h n').j ∈ t.place.toList) :
  TOk { t with place := SetTable.insertAt t.place (SetTable.below t.place (way t.mask h n).j) (way t.mask h n).j } (SetTable.insertAt es (SetTable.below t.place (way t.mask h n).j) (h, x)) := by
 have hc := (zph (j := (way t.mask h n).j) T.ris).1
 have hc2 : SetTable.below t.place (way t.mask h n).j <= es.size := by rw [<- T.size]; exact hc
 have hm : ∀ y, y ∈ t.place.toList -> y ∈ (SetTable.insertAt t.place (SetTable.below t.place (way t.mask h n).j) (way t.mask h n).j).toList := fun y hy => by
  have := (zdj t.place (SetTable.below t.place (way t.mask h n).j) (way t.mask h n).j).mem_iff (a := y)
  rw [this, zfn]
  exact zdu _ hy
 refine ⟨T.mask, T.dum, ynq T.ris hj, ?_, fun y hy => ?_, fun i h' v e => ?_⟩
 ·have e1 := (zdj t.place (SetTable.below t.place (way t.mask h n).j) (way t.mask h n).j).length_eq
  have e2 := (zdj es (SetTable.below t.place (way t.mask h n).j) (h, x)).length_eq
  rw [zbb, zbb, Array.size_push] at e1 e2
  rw [e1, e2, T.size]
 ·have := (zdj t.place (SetTable.below t.place (way t.mask h n).j) (way t.mask h n).j).mem_iff (a := y)
  rw [this, zfn] at hy
  rcases zcc.mp hy with hy | hy
  ·exact T.le y hy
  ·rw [zaw.mp hy]; exact ykw _ _ _
 ·rw [yaa hc2] at e
  dsimp only
  rw [yaa hc]
  by_cases h1 : i < SetTable.below t.place (way t.mask h n).j
  ·rw [if_pos h1] at e ⊢
   refine x1_3 (T.wy i h' v e) fun n2 a b c => ?_
   exact ⟨n2, a, b, fun n' q => hm _ (c n' q)⟩
  ·rw [if_neg h1] at e ⊢
   by_cases h2 : i = SetTable.below t.place (way t.mask h n).j
   ·rw [if_pos h2] at e ⊢
    cases e
    exact ⟨n, hn, rfl, fun n' q => hm _ (hb n' q)⟩
   ·rw [if_neg h2] at e ⊢
    refine x1_3 (T.wy (i - 1) h' v e) fun n2 a b c => ?_
    exact ⟨n2, a, b, fun n' q => hm _ (c n' q)⟩
theorem TOk.plain {t : SetTable} {es : Array (Int × Value)} (T : TOk t es) (b : Bool) : TOk { t with plain := b } es := ⟨T.mask, T.dum, T.ris, T.size, T.le, T.wy⟩
theorem TOk.fresh (f m : Nat) (led : Bool) : TOk (SetTable.fresh f m led) #[] := ⟨.inl rfl, rfl, by simp [SetTable.fresh], rfl, fun j hj => by simp [SetTable.fresh] at hj, fun i h v e => by simp at e⟩
noncomputable def Own (mask : Nat) (hs : List Int) (owner : Array (Option Nat)) (sl : List Nat) : Prop :=
 sl.length = hs.length /\ owner.size = mask + 1 /\ (∀ j q : Nat, owner[j]? = some (some q) ↔ sl[q]? = some j) /\ ∀ (q : Nat) (h : Int), hs[q]? = some h -> ∃ n, n <= 10 * (mask + 13) /\ sl[q]? = some (way mask h n).j /\ ∀ n', n' < n -> (way mask h n').j ∈ sl
theorem yff {owner : Array (Option Nat)} {j : Nat} (hj : j < owner.size) (q : (owner.getD j (some 0)).isNone = false) : ∃ r, owner[j]? = some (some r) := by
 have e1 : owner.getD j (some 0) = owner[j] := by simp [Array.getD, hj]
 rw [e1] at q
 cases z : owner[j] with
 | none => rw [z] at q; cases q
 | some r => exact ⟨r, by rw [zat hj, z]⟩
theorem ypf {owner : Array (Option Nat)} {j : Nat} (hj : j < owner.size) (q : (owner.getD j (some 0)).isNone = true) : owner[j]? = some none := by
 have e1 : owner.getD j (some 0) = owner[j] := by simp [Array.getD, hj]
 rw [e1] at q
 rw [zat hj]
 cases z : owner[j] with
 | none => rfl
 | some r => rw [z] at q; cases q
theorem ylc {mask n m P R : Nat} {owner : Array (Option Nat)} {w : Nat -> Nat} (hz : owner.size = mask + 1) (hR : R <= mask) (hP : P <= R) (occ : ∀ k, k <= R - P -> w (n + k) = P + k) (h5 : ∀ n', n' < n -> ∃ r, owner[w n']? = some (some r)) (hm : m <= R + 1 - P) (c : ∀ i, i < m -> (owner.getD (P + i) (some 0)).isNone = false) :
  ∀ n', n' < n + m -> ∃ r, owner[w n']? = some (some r) := fun n' hn' => by
 by_cases q : n' < n
 ·exact h5 n' q
 ·obtain ⟨i, e⟩ : ∃ i, n' = n + i := ⟨n' - n, by omega⟩
  subst e
  have hi : i < m := by omega
  rw [occ i (by omega)]
  exact yff (by omega) (c i hi)
theorem yfg {mask : Nat} {owner : Array (Option Nat)} {h : Int} (hz : owner.size = mask + 1) {l0 : Nat} (h0 : owner[(lp mask h l0).1]? = some none) :
  ∀ (fuel l n : Nat), way mask h n = ybh mask (lp mask h l).1 (lp mask h l).2 -> n <= 10 * l -> l <= l0 -> l0 - l < fuel -> (∀ n', n' < n -> ∃ r, owner[(way mask h n').j]? = some (some r)) ->
   ∃ n1, n1 <= 10 * l0 + 9 /\ SetTable.layClean.free mask owner fuel (lp mask h l).1 (lp mask h l).2 = some (way mask h n1).j /\ owner[(way mask h n1).j]? = some none /\ ∀ n', n' < n1 -> ∃ r, owner[(way mask h n').j]? = some (some r)
 | 0, l, n, _, _, h3, h4, _ => by omega
 | fuel + 1, l, n, e, h2, h3, h4, h5 => by
  have hre := zov (yiw mask h l)
  have occ : ∀ k, k <= SetTable.runEnd mask (lp mask h l).1 - (lp mask h l).1 -> (way mask h (n + k)).j = (lp mask h l).1 + k := fun k hk => by rw [zxu e k hk]
  have nxt := zyw e
  unfold SetTable.layClean.free
  cases hf : (List.range (SetTable.runEnd mask (lp mask h l).1 + 1 - (lp mask h l).1)).find? fun k => (owner.getD ((lp mask h l).1 + k) (some 0)).isNone with
  | some k =>
   dsimp only
   refine x0_3 (List.find?_range_eq_some.mp hf) fun a b c => ?_
   rw [zcl] at b
   have hk : k <= SetTable.runEnd mask (lp mask h l).1 - (lp mask h l).1 := by omega
   refine ⟨n + k, by omega, by rw [occ k hk], by rw [occ k hk]; exact ypf (by omega) a, ylc hz hre.1 hre.2.2 occ h5 (by omega) fun i hi => by simpa using c i hi⟩
  | none =>
   dsimp only
   have c := List.find?_range_eq_none.mp hf
   have c' : ∀ i, i < SetTable.runEnd mask (lp mask h l).1 + 1 - (lp mask h l).1 -> (owner.getD ((lp mask h l).1 + i) (some 0)).isNone = false := fun i hi => by simpa using c i hi
   have hl : l ≠ l0 := fun q => by
    subst q
    refine x1_1 (yff (by omega) (c' 0 (by omega))) fun r hr => ?_
    rw [Nat.add_zero, h0] at hr
    cases hr
   exact yfg hz h0 fuel (l + 1) _ nxt (by omega) (by omega) (by omega) fun n' hn' => ylc hz hre.1 hre.2.2 occ h5 (zai _) c' n' (by omega)
noncomputable def zur (mask : Nat) (acc : Option (Array (Option Nat) × Nat)) (h : Int) : Option (Array (Option Nat) × Nat) := do
  let (owner, k) <- acc
  let j <- SetTable.layClean.free mask owner (SetTable.turns mask) (SetTable.bits h % (mask + 1)) (SetTable.bits h)
  pure (owner.setIfInBounds j (some k), k + 1)
theorem zyk (mask : Nat) (hs : Array Int) : SetTable.layClean mask hs = (hs.toList.foldl (zur mask) (some (Array.replicate (mask + 1) none, 0))).map (·.1) := by
 rw [Array.foldl_toList]; rfl
theorem yim {mask : Nat} (hm : okM mask) {hs : List Int} {owner : Array (Option Nat)} {sl : List Nat} (O : Own mask hs owner sl) (hl : hs.length <= mask) (h : Int) :
  ∃ owner' sl', zur mask (some (owner, hs.length)) h = some (owner', hs.length + 1) /\ Own mask (hs ++ [h]) owner' sl' := by
 refine x0_4 O fun o1 o2 o3 o4 => ?_; clear O
 refine x1_2 (room (l := sl) (m := mask) (by omega)) fun j0 hj0 hn0 => ?_
 refine x1_2 (yls hm h hj0) fun l0 hl0 e0 => ?_
 have h0 : owner[(lp mask h l0).1]? = some none := by
  rw [e0]
  have hj' : j0 < owner.size := by omega
  rw [zat hj']
  cases z : owner[j0] with
  | none => rfl
  | some r =>
   have : owner[j0]? = some (some r) := by rw [zat hj', z]
   exact absurd (zar ((o3 j0 r).mp this)) hn0
 obtain ⟨n1, a1, a2, a3, a4⟩ := yfg o2 h0 (SetTable.turns mask) 0 0 rfl (zai _) (zbr _) (by unfold SetTable.turns; omega) fun n' q => by omega
 refine ⟨owner.setIfInBounds (way mask h n1).j (some hs.length), sl ++ [(way mask h n1).j], ?_, ?_, ?_, fun j q => ?_, fun q h' e => ?_⟩
 ·unfold zur
  show (do let j <- SetTable.layClean.free mask owner (SetTable.turns mask) (SetTable.bits h % (mask + 1)) (SetTable.bits h); pure (owner.setIfInBounds j (some hs.length), hs.length + 1)) = _
  rw [show SetTable.layClean.free mask owner (SetTable.turns mask) (SetTable.bits h % (mask + 1)) (SetTable.bits h) = some (way mask h n1).j from a2]
  rfl
 ·rw [zap, zap, o1]; rfl
 ·rw [Array.size_setIfInBounds]; exact o2
 ·have hj1 : (way mask h n1).j < owner.size := by have := ykw mask h n1; omega
  rw [Array.getElem?_setIfInBounds]
  by_cases q1 : (way mask h n1).j = j
  ·subst q1
   rw [if_pos rfl, if_pos hj1]
   constructor
   ·intro e
    cases e
    rw [<- o1]; simp
   ·intro e
    by_cases q2 : q < sl.length
    ·rw [zax q2] at e
     have := (o3 _ q).mpr e
     rw [a3] at this; cases this
    ·have hq : q < (sl ++ [(way mask h n1).j]).length := (zal.mp e).1
     rw [zap] at hq
     have : q = sl.length := by simp at hq; omega
     rw [this, o1]
  ·rw [if_neg q1, o3]
   by_cases q2 : q < sl.length
   ·rw [zax q2]
   ·rw [zeo (by omega), zao (by omega)]
    constructor
    ·intro e; cases e
    ·intro e
     exfalso
     cases z : q - sl.length with
     | zero => rw [z] at e; simp at e; exact q1 e
     | succ k => rw [z] at e; simp at e
 ·have mm : ∀ y, y ∈ sl -> y ∈ sl ++ [(way mask h n1).j] := fun y hy => zdu _ hy
  by_cases q2 : q < hs.length
  ·rw [zax q2] at e
   refine x1_3 (o4 q h' e) fun n b1 b2 b3 => ?_
   exact ⟨n, b1, by rw [zax (by omega)]; exact b2, fun n' q => mm _ (b3 n' q)⟩
  ·have hq : q < (hs ++ [h]).length := (zal.mp e).1
   rw [zap] at hq
   have eq : q = hs.length := by simp at hq; omega
   subst eq
   rw [zao (zai _), zeq] at e
   cases e
   refine ⟨n1, by omega, ?_, fun n' q => ?_⟩
   ·rw [<- o1]; simp
   ·refine x1_1 (a4 n' q) fun r hr => ?_
    exact mm _ (zar ((o3 _ r).mp hr))
theorem yeb {mask : Nat} (hm : okM mask) : ∀ (h2 h1 : List Int) (owner : Array (Option Nat)) (sl : List Nat), Own mask h1 owner sl -> h1.length + h2.length <= mask ->
  ∃ owner' sl', h2.foldl (zur mask) (some (owner, h1.length)) = some (owner', h1.length + h2.length) /\ Own mask (h1 ++ h2) owner' sl'
 | [], h1, owner, sl, O, _ => ⟨owner, sl, rfl, by rw [zdi]; exact O⟩
 | h :: h2, h1, owner, sl, O, hl => by
  rw [zah] at hl
  refine x2_2 (yim hm O (by omega) h) fun o' s' e O' => ?_
  refine x2_2 (yeb hm h2 (h1 ++ [h]) o' s' O' (by rw [zap]; simp; omega)) fun o2 s2 e2 O2 => ?_
  refine ⟨o2, s2, ?_, by rw [zck] at O2; exact O2⟩
  rw [zhm, e]
  rw [zap] at e2
  rw [show h1.length + [h].length = h1.length + 1 from rfl] at e2
  rw [e2, zah]
  congr 2; omega
theorem ynz (mask : Nat) : Own mask [] (Array.replicate (mask + 1) none) [] := ⟨rfl, by simp, fun j q => by
 rw [Array.getElem?_replicate]
 constructor
 ·intro e; split at e <;> cases e
 ·intro e; simp at e, fun q h e => by simp at e⟩
theorem yly {α β : Type} {f : α -> Option β} : ∀ {l : List α}, (∀ q ∈ l, ∃ e, f q = some e) -> ∀ i : Nat, (l.filterMap f)[i]? = (l[i]?).bind f
 | [], _, i => by simp
 | a :: l, h, i => by
  refine x1_1 (h a (.head _)) fun e he => ?_
  rw [List.filterMap_cons_some he]
  cases i with
  | zero => simp [he]
  | succ i =>
   rw [zch, zch]
   exact yly (fun q hq => h q (.tail _ hq)) i
theorem yoy {mask finger moves : Nat} {led plain : Bool} (hm : okM mask) {es : Array (Int × Value)} (hl : es.size <= mask) :
  ∃ t' order, SetTable.laid mask finger moves led plain (es.map (·.1)) = some (t', order) /\ t'.mask = mask /\ t'.led = led /\ t'.plain = plain /\ (order.filterMap (es[·]?)).toList.Perm es.toList /\ TOk t' (order.filterMap (es[·]?)) := by
 have hhs : (es.map (·.1)).toList.length = es.size := by rw [zbb, Array.size_map]
 refine x2_2 (yeb hm (es.map (·.1)).toList [] _ _ (ynz mask) (by rw [hhs, zbq]; omega)) fun owner sl e1 O => ?_
 refine x0_4 O fun o1 o2 o3 o4 => ?_; clear O
 rw [zcm] at o1 o4
 rw [hhs] at o1
 have lc : SetTable.layClean mask (es.map (·.1)) = some owner := by
  rw [zyk]
  rw [show (some (Array.replicate (mask + 1) none, 0) : Option (Array (Option Nat) × Nat)) = some (Array.replicate (mask + 1) none, ([] : List Int).length) from rfl, e1]
  rfl
 let L : List (Nat × Nat) := (List.range (mask + 1)).filterMap fun j => (owner.getD j none).map (j, ·)
 have hL : ∀ j q, (j, q) ∈ L ↔ owner[j]? = some (some q) := fun j q => by
  constructor
  ·intro h
   refine x1_2 (zef.mp h) fun j' hj' e => ?_
   refine x1_2 (zab.mp e) fun q' hq' e => ?_
   cases e
   have hlt : j < owner.size := by rw [zcl] at hj'; omega
   have e1 : owner.getD j none = owner[j] := by simp [Array.getD, hlt]
   rw [e1] at hq'
   rw [zat hlt, hq']
  ·intro h
   refine x1_1 (zbt.mp h) fun hlt e => ?_
   refine zef.mpr ⟨j, zcl.mpr (by omega), ?_⟩
   have e1 : owner.getD j none = owner[j] := by simp [Array.getD, hlt]
   rw [e1, e]; rfl
 have hP : L.Pairwise fun a b => a.1 < b.1 := by
  refine List.Pairwise.filterMap (R := (· < ·)) _ (fun a a' h b hb b' hb' => ?_) List.pairwise_lt_range
  refine x1_2 (zab.mp hb) fun q _ e => ?_
  refine x1_2 (zab.mp hb') fun q' _ e' => ?_
  subst e; subst e'
  exact h
 have hnd : (L.map (·.2)).Nodup := by
  unfold List.Nodup
  rw [zcv]
  refine List.Pairwise.imp_of_mem (fun {a b} ha hb h e => ?_) hP
  obtain ⟨a1, a2⟩ := a
  obtain ⟨b1, b2⟩ := b
  have e' : a2 = b2 := e
  subst e'
  have z1 := (o3 _ _).mp ((hL _ _).mp ha)
  have z2 := (o3 _ _).mp ((hL _ _).mp hb)
  rw [z1] at z2
  cases z2
  exact Nat.lt_irrefl _ h
 have hmem : ∀ q, q ∈ L.map (·.2) ↔ q ∈ List.range es.size := fun q => by
  rw [zcl]
  constructor
  ·intro h
   obtain ⟨⟨j, q'⟩, ha, e⟩ := zbd.mp h
   have e' : q' = q := e
   subst e'
   have := (zal.mp ((o3 _ _).mp ((hL _ _).mp ha))).1
   omega
  ·intro h
   have : sl[q]? = some (sl[q]'(by omega)) := zae _
   exact zbd.mpr ⟨(_, q), (hL _ _).mpr ((o3 _ _).mpr this), rfl⟩
 have hperm : (L.map (·.2)).Perm (List.range es.size) := (List.perm_ext_iff_of_nodup hnd zkc).mpr hmem
 have hall : ∀ q ∈ L.map (·.2), ∃ e, (es[·]?) q = some e := fun q hq => by
  have := (hmem q).mp hq
  rw [zcl] at this
  exact ⟨es[q], zat this⟩
 have hes : ((L.map (·.2)).toArray.filterMap (es[·]?)).toList = (L.map (·.2)).filterMap (es[·]?) := by rw [Array.toList_filterMap]
 have hpe : ((L.map (·.2)).toArray.filterMap (es[·]?)).toList.Perm es.toList := by
  rw [hes]
  exact (hperm.filterMap _).trans (by rw [filterMap_getElem?_range])
 refine ⟨{ mask, place := (L.map (·.1)).toArray, dummies := #[], finger, led, moves, plain }, (L.map (·.2)).toArray, ?_, rfl, rfl, rfl, hpe, hm, rfl, ?_, ?_, fun j hj => ?_, fun i h v e => ?_⟩
 ·unfold SetTable.laid
  rw [lc]
  rfl
 ·show (L.map (·.1)).Pairwise (· < ·)
  rw [zcv]; exact hP
 ·show (L.map (·.1)).toArray.size = _
  have := hpe.length_eq
  rw [zbb, zbb] at this
  rw [this, zau, zad]
  have := hperm.length_eq
  rw [zad, zej] at this
  exact this
 ·obtain ⟨⟨j', q⟩, ha, e⟩ := zbd.mp (show j ∈ L.map (·.1) from hj)
  have e' : j' = j := e
  subst e'
  have := (zbt.mp ((hL _ _).mp ha)).1
  show j' <= mask
  omega
 ·rw [<- zas, hes, yly hall, zak] at e
  cases z : L[i]? with
  | none => rw [z] at e; cases e
  | some a =>
   obtain ⟨j, q⟩ := a
   rw [z] at e
   have e' : es[q]? = some (h, v) := e
   have hj := (o3 _ _).mp ((hL _ _).mp (zar z))
   refine x1_3 (o4 q h (by rw [zas, Array.getElem?_map, e']; rfl)) fun n b1 b2 b3 => ?_
   rw [hj] at b2
   refine ⟨n, b1, ?_, fun n' q' => ?_⟩
   ·show (L.map (·.1)).toArray[i]? = _
    rw [List.getElem?_toArray, zak, z]
    exact congrArg some (zbk b2)
   ·refine x1_1 (zct (b3 n' q')) fun q2 e2 => ?_
    show _ ∈ L.map (·.1)
    exact zbd.mpr ⟨(_, q2), (hL _ _).mpr ((o3 _ _).mpr e2), rfl⟩
end DL
namespace DL
open PySem
section
variable {prog : Program} {w : World} {A : Around} {E : Value -> Shared -> Prop} {s : Shared}
noncomputable abbrev IsTK (prog : Program) (w : World) (h : Heap) (k : List Int) (a : Addr) : Prop := IsTupleKey (intKind prog w) h k a
noncomputable abbrev zkk (prog : Program) (w : World) (k : List Int) : Int := tupleKeyHash (intKind prog w) k
noncomputable def ent (prog : Program) (w : World) (x : List Int × Addr) : Int × Value := (zkk prog w x.1, .ref x.2)
theorem items_int {ks : List Int} {vs : List Value} (h : ItemsAre (intKind prog w) ks vs) : ∀ v ∈ vs, ∃ i t, v = .int i t := by
 induction h with
 | nil => intro v hv; cases hv
 | cons h1 _ ih =>
  intro v hv
  rcases zan.mp hv with e | hv
  ·subst e
   refine x1_1 (zfl h1) fun t e => ?_
   exact ⟨_, t, e⟩
  ·exact ih v hv
theorem yfb {k : List Int} {a : Addr} {Q : Bool -> Shared -> Prop} (hk : IsTK prog w s.heap k a) (h : Q true s) : wpAny (model prog w) A (hashByValue 8 (.ref a)) Q E s := by
 have hT := hk.typeIs
 refine x3_4 hk fun o items n ho hc hd hi => ?_; clear hk
 unfold hashByValue
 refine zac (zfk hT F.slot_tuple_hash.lookup ?_)
 show wpAny _ _ (do for x in (<- seqItems? (.ref a)).getD #[.ellipsis] do { if !(<- hashByValue 7 x) then return false }; return true) Q E s
 refine zac (wpAny_seqItems ho hd ?_)
 refine zac ?_
 show wpAny _ _ (forIn items _ _) _ _ s
 rw [<- zjf]
 refine zic _ (fun rest r s' => r.1 = none /\ s' = s /\ ∀ v ∈ rest, ∃ i t, v = Value.int i t) _ ?_ ?_ _ _ ⟨rfl, rfl, items_int hi⟩
 ·rintro v rest r s' ⟨hr, e, q⟩
  subst e
  refine x2_1 (q v (.head _)) fun i t e => ?_
  subst e
  unfold hashByValue
  exact zac (zag (zag ⟨rfl, rfl, fun u hu => q u (.tail _ hu)⟩))
 ·rintro ⟨r1, r2⟩ s' ⟨hr, e, _⟩
  subst e
  have hr' : r1 = none := hr
  subst hr'
  exact zag h
theorem zxh {k : List Int} {a : Addr} {Q : Bool -> Shared -> Prop} (hk : IsTK prog w s.heap k a) (h : Q false s) : wpAny (model prog w) A (ofAClassStatement 8 (.ref a)) Q E s := by
 have hT := hk.typeIs
 refine x3_4 hk fun o items n ho hc hd hi => ?_; clear hk
 unfold ofAClassStatement
 refine zac (zhu hT ?_)
 show wpAny _ _ (do let underTuple <- (if ("tuple" : String) == "tuple" then pure true else isSubtype (.type "tuple") (.type "tuple")); _) Q E s
 rw [if_pos (by decide)]
 refine zac (zag ?_)
 simp only [zfr, zay, if_false]
 refine zac (wpAny_seqItems ho hd ?_)
 dsimp only
 refine zac ?_
 show wpAny _ _ (forIn items _ _) _ _ s
 rw [<- zjf]
 refine zic _ (fun rest r s' => r.1 = none /\ s' = s /\ ∀ v ∈ rest, ∃ i t, v = Value.int i t) _ ?_ ?_ _ _ ⟨rfl, rfl, items_int hi⟩
 ·rintro v rest r s' ⟨hr, e, q⟩
  subst e
  refine x2_1 (q v (.head _)) fun i t e => ?_
  subst e
  unfold ofAClassStatement
  exact zac (zag (zag ⟨rfl, rfl, fun u hu => q u (.tail _ hu)⟩))
 ·rintro ⟨r1, r2⟩ s' ⟨hr, e, _⟩
  subst e
  have hr' : r1 = none := hr
  subst hr'
  exact zag h
theorem ybe {k : List Int} {a : Addr} {l : List Value} {Q : Bool -> Shared -> Prop} (hk : IsTK prog w s.heap k a) (hl : ∀ v ∈ l, ∃ b k', v = .ref b /\ IsTK prog w s.heap k' b) (h : Q false s) : wpAny (model prog w) A (searchCouldBeSeen (.ref a) l) Q E s := by
 unfold searchCouldBeSeen
 refine zac ?_
 refine zic _ (fun rest r s' => r.1 = none /\ s' = s /\ ∀ v ∈ rest, ∃ b k', v = Value.ref b /\ IsTK prog w s.heap k' b) _ ?_ ?_ _ _ ⟨rfl, rfl, hl⟩
 ·rintro v rest r s' ⟨hr, e, q⟩
  subst e
  refine x2_2 (q v (.head _)) fun b k' e hb => ?_
  subst e
  have q' := fun u hu => q u (.tail _ hu)
  dsimp only
  split
  ·exact zag ⟨rfl, rfl, q'⟩
  ·refine zac (zjw hk ?_)
   simp only [zfr, zay, if_false]
   refine zac (zjw hb ?_)
   simp only [zfr, zay, if_false]
   refine zac (zxh hk ?_)
   simp only [zay, if_false]
   refine zac (zxh hb ?_)
   simp only [zay, if_false]
   exact zag ⟨rfl, rfl, q'⟩
 ·rintro ⟨r1, r2⟩ s' ⟨hr, e, _⟩
  subst e
  have hr' : r1 = none := hr
  subst hr'
  exact zag h
noncomputable def Stop (prog : Program) (w : World) (t : SetTable) (es : Array (Int × Value)) (h : Heap) (k : List Int) (n0 : Nat) (r : SetFound) : Prop :=
 ((way t.mask (zkk prog w k) n0).j ∉ t.place.toList /\ r = .free (way t.mask (zkk prog w k) n0).j false) ∨ (∃ (i : Nat) (b : Addr), t.place[i]? = some (way t.mask (zkk prog w k) n0).j /\ es[i]? = some (zkk prog w k, .ref b) /\ IsTK prog w h k b /\ r = .there none)
theorem ybt {t : SetTable} (h : okM t.mask) : t.gaveWay = false := by
 unfold SetTable.gaveWay
 rcases h with h | h | h <;> rw [h] <;> rfl
theorem search {a b : Addr} {o : Obj} {es : Array (Int × Value)} {ep : Nat} {t : SetTable} {k : List Int} {n0 : Nat} {r : SetFound} (ho : s.heap.get? a = some o) (hd : o.data = .set es ep t) (hf : t.fits es.size = true) (T : TOk t es)
  (hE : ∀ (i : Nat) (e : Int × Value), es[i]? = some e -> ∃ b k, e = (zkk prog w k, Value.ref b) /\ IsTK prog w s.heap k b) (hu : A.units < cLine) (hk : IsTK prog w s.heap k b) (hn0 : n0 <= 10 * (t.mask + 13)) (hS : Stop prog w t es s.heap k n0 r) {Q : SetFound -> Shared -> Prop} (h : Q r s) :
  ∀ (fuel n : Nat) (st : Option SetTable.Probe), n <= n0 -> n0 - n < fuel -> st.getD (t.probeStart (zkk prog w k)) = way t.mask (zkk prog w k) n ->
   (∀ m, n <= m -> m < n0 -> ∃ (i : Nat) (b : Addr) (k' : List Int), t.place[i]? = some (way t.mask (zkk prog w k) m).j /\ es[i]? = some (zkk prog w k', .ref b) /\ IsTK prog w s.heap k' b /\ k' ≠ k) ->
   wpAny (model prog w) A (setSearchFrom a (.ref b) (zkk prog w k) true fuel st) Q E s
 | 0, n, st, h1, h2, _, _ => by omega
 | fuel + 1, n, st, h1, h2, h3, h4 => by
  unfold setSearchFrom
  refine zac (zdy ho hd hf ?_)
  dsimp only
  rw [ybt T.mask]
  simp only [zay, if_false]
  rw [h3]
  have pg := zzh (t := t) (hashAt := fun i => (es[i]?.map (·.1)).getD 0) (h := zkk prog w k) (n0 := n0) T.dum T.ris (by
   rcases hS with ⟨q, _⟩ | ⟨i, b, q1, q2, q3, _⟩
   ·exact .inl q
   ·exact .inr ⟨i, q1, by rw [q2]; rfl⟩) (10 * SetTable.turns t.mask) n h1 (by unfold SetTable.turns; omega) (fun m a b => by
    refine x3_2 (h4 m a b) fun i _ _ e _ => ?_
    exact ⟨i, e⟩)
  generalize hg : SetTable.probe t _ (zkk prog w k) (way t.mask (zkk prog w k) n) = g
  have hg' : SetTable.probe.go t (fun i => (es[i]?.map (·.1)).getD 0) (zkk prog w k) (10 * SetTable.turns t.mask) (way t.mask (zkk prog w k) n) = g := hg
  rw [hg'] at pg
  rcases pg with ⟨m, i, m1, m2, m3, m4, m5⟩ | ⟨m1, m2⟩
  ·rw [m5]
   dsimp only
   have hi : i < es.size := by rw [<- T.size]; exact (zbt.mp m3).1
   have ei : es[i]? = some es[i] := zat hi
   refine x2_2 (hE i _ ei) fun c k' ec hc => ?_
   have seen : ∀ {Q' : Bool -> Shared -> Prop}, Q' false s -> wpAny (model prog w) A (searchCouldBeSeen (.ref b) ((es.filter (·.1 == zkk prog w k)).toList.map (·.2))) Q' E s := fun hq => ybe hk (fun v hv => by
    refine x1_2 (zbd.mp hv) fun e he q => ?_
    rw [Array.toList_filter] at he
    have he := (zfx.mp he).1
    refine x1_1 (zct he) fun j hj => ?_
    refine x2_2 (hE j e (by rw [<- zas]; exact hj)) fun b' k2 e2 hb' => ?_
    subst e2
    exact ⟨b', k2, q.symm, hb'⟩) hq
   have tail : wpAny (model prog w) A (do
     let some (_, y) := es[i]? | unsupported "internal:set-entry"
     let equal <- holding [y] (eqBool y (.ref b))
     let (es', _, t') <- setState a
     if true && equal then return .there none
     let some same := t'.sameMemory t.moves t.mask | unsupported "set.changed-during-lookup:is-the-new-block-at-the-old-address"
     let still <- match (if same then t'.slot (way t.mask (zkk prog w k) m).j else .empty) with
      | .live i' => match es'[i']? with
       | some (_, y') => do pure (if <- isSame y' y then some i' else none)
       | none => pure none
      | _ => pure none
     match still with
     | none => rule "set.search.anew"; setSearchFrom a (.ref b) (zkk prog w k) true fuel none
     | some i' => if equal then return .there (some i') else setSearchFrom a (.ref b) (zkk prog w k) true fuel (some (way t.mask (zkk prog w k) (m + 1)))) Q E s := by
    rw [ei, ec]
    dsimp only
    refine zac (zby (wpAny_eqBool_tuple hu hc hk ?_))
    refine zac (zdy ho hd hf ?_)
    dsimp only
    by_cases hkk : k' = k
    ·rw [decide_eq_true hkk]
     simp only [zgr, if_true]
     have : r = .there none := by
      rcases hS with ⟨q, _⟩ | ⟨_, _, _, _, _, e⟩
      ·have z : m ≠ n0 := fun e => q (by rw [<- e]; exact zar (by rw [zas]; exact m3))
       refine x3_4 (h4 m m1 (by omega)) fun i2 b2 k2 g1 g2 g3 g4 => ?_
       have e1 := zlz T.ris m3
       rw [zlz T.ris g1] at e1
       cases e1
       rw [ei, ec] at g2
       have e5 : Value.ref c = Value.ref b2 := congrArg Prod.snd (zbk g2)
       cases e5
       exact absurd ((zgy g3 hc).trans hkk) g4
      ·exact e
     rw [this] at h
     exact zag h
    ·rw [decide_eq_false hkk]
     simp only [Bool.and_false, zay, if_false]
     have sm : t.sameMemory t.moves t.mask = some true := by unfold SetTable.sameMemory; simp
     rw [sm]
     dsimp only
     rw [if_pos rfl, zlz T.ris m3]
     dsimp only
     rw [ei, ec]
     dsimp only
     refine zac (wpAny_isSame_ref_self (zac (zag ?_)))
     simp only [if_true]
     have hm : m ≠ n0 := fun e => by
      subst e
      rcases hS with ⟨q, _⟩ | ⟨i2, b2, q1, q2, q3, _⟩
      ·exact q (zar (by rw [zas]; exact m3))
      ·have e1 := zlz T.ris m3
       rw [zlz T.ris q1] at e1
       cases e1
       rw [ei, ec] at q2
       have e5 : Value.ref c = Value.ref b2 := congrArg Prod.snd (zbk q2)
       cases e5
       exact hkk (zgy hc q3)
     exact search ho hd hf T hE hu hk hn0 hS h fuel (m + 1) _ (by omega) (by omega) rfl fun m' a b => h4 m' (by omega) b
   cases hled : t.led with
   | true =>
    simp only [zfr, zay, if_false]
    exact tail
   | false =>
    simp only [zgk, if_true]
    refine zac (seen ?_)
    simp only [zay, if_false]
    exact tail
  ·rw [m2]
   dsimp only
   have : r = .free (way t.mask (zkk prog w k) n0).j false := by
    rcases hS with ⟨_, e⟩ | ⟨_, _, q, _⟩
    ·exact e
    ·exact absurd (zar (by rw [zas]; exact q)) m1
   rw [this] at h
   exact zag h
end
end DL
namespace DL
open PySem
section
variable {prog : Program} {w : World} {A : Around} {E : Value -> Shared -> Prop} {s : Shared}
noncomputable def SetP (prog : Program) (w : World) (h : Heap) (a : Addr) (led : Bool) (σ : List (List Int × Addr)) : Prop :=
 ∃ o es ep t, h.get? a = some o /\ o.ExactSet /\ o.data = .set es ep t /\ TOk t es /\ t.plain = true /\ t.led = led /\ t.place.size * 5 < t.mask * 3 /\ es.toList.Perm (σ.map (ent prog w)) /\ (σ.map (·.1)).Nodup /\ ∀ x ∈ σ, IsTK prog w h x.1 x.2
noncomputable def addK (σ : List (List Int × Addr)) (k : List Int) (b : Addr) : List (List Int × Addr) := if k ∈ σ.map (·.1) then σ else σ ++ [(k, b)]
theorem ycx {h h' : Heap} {k : List Int} {a b : Addr} {o : Obj} {es ep t} (x : IsTK prog w h k b) (ho : h.get? a = some o) (hd : o.data = .set es ep t) (hs : Heap.SameBut a h h') : IsTK prog w h' k b := by
 refine x3_4 x fun o' items n ho' hc hd' hi => ?_; clear x
 have hne : b ≠ a := fun e => by
  subst e
  rw [ho] at ho'
  cases ho'
  rw [hd] at hd'
  cases hd'
 exact ⟨o', items, n, (hs.2 b hne).trans ho', hc, hd', hi⟩
theorem zvw {h : Heap} {a : Addr} {o : Obj} {es es' : Array (Int × Value)} {ep : Nat} {t t' : SetTable} (ho : h.get? a = some o) (hd : o.data = .set es ep t) : (h.update a (Obj.putSet es' t')).get? a = some { o with data := .set es' (ep + 1) t' } := by
 have := zco (Obj.putSet es' t') ho (by rw [putSet_of es' t' hd]; rfl)
 rw [putSet_of es' t' hd] at this
 exact this
theorem TOk.fits {t : SetTable} {es : Array (Int × Value)} (T : TOk t es) (h : t.place.size <= t.mask) : t.fits es.size = true := by
 unfold SetTable.fits SetTable.fill
 rw [T.size, T.dum]
 rw [T.size] at h
 simpa using h
theorem SetP.lt {h : Heap} {a : Addr} {led : Bool} {σ : List (List Int × Addr)} (S : SetP prog w h a led σ) : a < h.objs.size := by
 refine x4_2 S fun o _ _ _ ho _ => ?_; clear S
 exact zam ho
theorem SetP.at {h h' : Heap} {a : Addr} {led : Bool} {σ : List (List Int × Addr)} (S : SetP prog w h a led σ) (hk : ∀ b o, h.get? b = some o -> (b = a ∨ ∃ x ∈ σ, b = x.2) -> h'.get? b = some o) : SetP prog w h' a led σ := by
 refine x4_10 S fun o es ep t ho hx hd T pl ld fw pm nd tk => ?_; clear S
 refine ⟨o, es, ep, t, hk a o ho (.inl rfl), hx, hd, T, pl, ld, fw, pm, nd, fun x hx => ?_⟩
 refine x3_2 (tk x hx) fun o' items n ho' r => ?_
 exact ⟨o', items, n, hk _ _ ho' (.inr ⟨x, hx, rfl⟩), r⟩
theorem yid {a : Addr} {o : Obj} {es : Array (Int × Value)} {ep : Nat} {t : SetTable} {m wanted : Nat} {Q : Unit -> Shared -> Prop} (ho : s.heap.get? a = some o) (hd : o.data = .set es ep t) (hf : t.fits es.size = true) (hm : okM m) (hw : SetTable.sizeAbove wanted = m + 1) (hl : es.size <= m)
  (h : ∀ es' t', TOk t' es' -> t'.mask = m -> t'.led = t.led -> t'.plain = t.plain -> es'.toList.Perm es.toList -> Q () { s with heap := s.heap.update a (Obj.putSet es' t') }) : wpAny (model prog w) A (setRelay a wanted) Q E s := by
 unfold setRelay
 refine zac (zdy ho hd hf ?_)
 dsimp only
 rw [hw]
 have hsz : ¬ m + 1 > sizeLine := by
  rw [zdo]
  rcases hm with e | e | e <;> rw [e] <;> decide
 rw [if_neg hsz]
 unfold SetTable.relaid
 rw [hw, Nat.add_sub_cancel]
 refine x2_6 (yoy (finger := t.finger) (moves := t.movedTo m) (led := t.led) (plain := t.plain) hm hl) fun t' order e1 e2 e3 e4 e5 e6 => ?_
 rw [e1]
 have hsame : (order.filterMap (es[·]?)).size = es.size := by
  have := e5.length_eq
  rw [zbb, zbb] at this
  exact this
 refine zac (zfd (Q := fun r s' => r = (order.filterMap (es[·]?), t') /\ s' = s) ?_ (fun r s' hr => ?_) fun _ _ e => e)
 ·show wpAny _ A (if ((order.filterMap (es[·]?)).size != es.size) = true then (unsupported "internal:set-table-lost-an-element" >>= fun _ => pure (order.filterMap (es[·]?), t')) else pure (order.filterMap (es[·]?), t')) _ _ _
  rw [if_neg (by rw [hsame]; simp)]
  exact zag ⟨rfl, rfl⟩
 ·refine x0_2 hr fun r1 r2 => ?_; clear hr
  subst r1; subst r2
  refine wpAny_storeSet_of ho hd (h _ _ e6 e2 e3 e4 e5) ?_
  rw [hsame, zdo]
  have : m <= 127 := by rcases hm with e | e | e <;> omega
  omega
theorem add_ok {a b : Addr} {k : List Int} {led : Bool} {σ : List (List Int × Addr)} {Q : Bool -> Shared -> Prop} (hS : SetP prog w s.heap a led σ) (hk : IsTK prog w s.heap k b) (hu : A.units < cLine) (hlen : σ.length <= 70)
  (h : ∀ r h', Heap.SameBut a s.heap h' -> SetP prog w h' a led (addK σ k b) -> Q r { s with heap := h' }) : wpAny (model prog w) A (setAddHashed a (.ref b) (zkk prog w k)) Q E s := by
 refine x4_10 hS fun o es ep t ho hx hd T pl ld fw pm nd tk => ?_; clear hS
 have hfit := T.fits (by omega)
 have hel : es.size = σ.length := by
  have := pm.length_eq
  rw [zbb, zad] at this
  exact this
 have hE : ∀ (i : Nat) (e : Int × Value), es[i]? = some e -> ∃ b k, e = (zkk prog w k, Value.ref b) /\ IsTK prog w s.heap k b /\ (k, b) ∈ σ := fun i e q => by
  have := pm.mem_iff.mp (zar (by rw [zas]; exact q))
  refine x1_2 (zbd.mp this) fun x hx e2 => ?_
  exact ⟨x.2, x.1, e2.symm, tk x hx, hx⟩
 let P : Nat -> Prop := fun n => (way t.mask (zkk prog w k) n).j ∉ t.place.toList ∨ ∃ (i : Nat) (b : Addr), t.place[i]? = some (way t.mask (zkk prog w k) n).j /\ es[i]? = some (zkk prog w k, .ref b) /\ IsTK prog w s.heap k b
 refine x1_2 (room (l := t.place.toList) (m := t.mask) (by rw [zbb]; omega)) fun j0 hj0 hjn => ?_
 refine x1_2 (ymj T.mask (zkk prog w k) hj0) fun n1 hn1 en1 => ?_
 refine x1_3 (least (P := P) (n := n1) (.inl (by rw [en1]; exact hjn))) fun n0 l1 l2 l3 => ?_
 have live : ∀ m, m < n0 -> ∃ (i : Nat) (b : Addr) (k' : List Int), t.place[i]? = some (way t.mask (zkk prog w k) m).j /\ es[i]? = some (zkk prog w k', .ref b) /\ IsTK prog w s.heap k' b /\ k' ≠ k := fun m hm => by
  have np := l3 m hm
  have hin : (way t.mask (zkk prog w k) m).j ∈ t.place.toList := zcw fun q => np (.inl q)
  refine x1_1 (zct hin) fun i hi => ?_
  rw [zas] at hi
  have hlt : i < es.size := by rw [<- T.size]; exact (zbt.mp hi).1
  refine x2_3 (hE i _ (zat hlt)) fun b' k' e1 e2 _ => ?_
  have e3 : es[i]? = some (zkk prog w k', Value.ref b') := by rw [zat hlt, e1]
  exact ⟨i, b', k', hi, e3, e2, fun q => np (.inr ⟨i, b', hi, by rw [e3, q], by rw [<- q]; exact e2⟩)⟩
 have go : ∀ r, Stop prog w t es s.heap k n0 r -> ∀ {Q' : SetFound -> Shared -> Prop}, Q' r s -> wpAny (model prog w) A (setSearch a (.ref b) (zkk prog w k) true) Q' E s := fun r hr Q' hq => by
  unfold setSearch
  have hm127 : t.mask <= 127 := by rcases T.mask with e | e | e <;> omega
  exact search ho hd hfit T (fun i e q => by
   refine x2_3 (hE i e q) fun b k e1 e2 _ => ?_
   exact ⟨b, k, e1, e2⟩) hu hk (by omega) hr hq 100000 0 none (zbr _) (by omega) rfl fun m _ hm => live m hm
 unfold setAddHashed
 refine zby ?_
 unfold setAddHashedIn
 refine zac (zdy ho hd hfit ?_)
 dsimp only
 rw [if_neg (by simp [byScan, Value.scannable])]
 by_cases hin : k ∈ σ.map (·.1)
 ·-- it is there
  have hp : ∃ (i : Nat) (b : Addr), t.place[i]? = some (way t.mask (zkk prog w k) n0).j /\ es[i]? = some (zkk prog w k, .ref b) /\ IsTK prog w s.heap k b := by
   rcases l2 with q | q
   ·refine x1_2 (zbd.mp hin) fun x hx1 hx2 => ?_
    have hmem : ent prog w x ∈ es.toList := pm.mem_iff.mpr (zbd.mpr ⟨x, hx1, rfl⟩)
    refine x1_1 (zct hmem) fun i hi => ?_
    rw [zas] at hi
    have hi2 : es[i]? = some (zkk prog w k, Value.ref x.2) := by rw [hi]; unfold ent; rw [hx2]
    refine x1_3 (T.wy i _ _ hi2) fun n2 w1 w2 w3 => ?_
    have hle : n0 <= n2 := zcw fun z => l3 n2 (by omega) (.inr ⟨i, x.2, w2, hi2, by rw [<- hx2]; exact tk x hx1⟩)
    rcases zgf n0 n2 with z | z
    ·exact absurd (w3 n0 z) q
    ·have : n0 = n2 := by omega
     subst this
     exact absurd (zar (by rw [zas]; exact w2)) q
   ·exact q
  refine x2_3 hp fun i b' p1 p2 p3 => ?_; clear hp
  refine zac (go (.there none) (.inr ⟨i, b', p1, p2, p3, rfl⟩) ?_)
  dsimp only
  have e : s = { s with heap := s.heap } := rfl
  rw [e]
  refine zag (h _ _ (Heap.SameBut.refl a s.heap) ?_)
  unfold addK
  rw [if_pos hin]
  exact ⟨o, es, ep, t, ho, hx, hd, T, pl, ld, fw, pm, nd, tk⟩
 ·-- it is new
  have hp : (way t.mask (zkk prog w k) n0).j ∉ t.place.toList := by
   rcases l2 with q | ⟨i, b', q1, q2, q3⟩
   ·exact q
   ·refine x2_3 (hE i _ q2) fun b2 k2 e1 e2 e3 => ?_
    have e5 : Value.ref b' = Value.ref b2 := congrArg Prod.snd e1
    cases e5
    rw [zgy q3 e2] at hin
    exact absurd (zbd.mpr ⟨_, e3, rfl⟩) hin
  refine zac (go (.free (way t.mask (zkk prog w k) n0).j false) (.inl ⟨hp, rfl⟩) ?_)
  dsimp only
  refine zac (zdy ho hd hfit ?_)
  dsimp only
  rw [put_eq T.dum]
  dsimp only
  rw [if_pos pl]
  refine zac (yfb hk ?_)
  simp only [if_true]
  have T1 := T.put (x := Value.ref b) (n := n0) (h := zkk prog w k) (by omega) hp fun n' hn' => by
   refine x3_2 (live n' hn') fun i _ _ e _ => ?_
   exact zar (by rw [zas]; exact e)
  have pm1 : (SetTable.insertAt es (SetTable.below t.place (way t.mask (zkk prog w k) n0).j) (zkk prog w k, Value.ref b)).toList.Perm ((σ ++ [(k, b)]).map (ent prog w)) := by
   refine (zdj _ _ _).trans ?_
   rw [zfn, zbw]
   exact pm.append_right _
  have nd1 : ((σ ++ [(k, b)]).map (·.1)).Nodup := by
   rw [zbw, zjs]
   refine ⟨nd, by simp, fun x hx y hy => ?_⟩
   have : y = k := by simpa using hy
   rw [this]
   exact fun e => hin (by rw [<- e]; exact hx)
  have ak : addK σ k b = σ ++ [(k, b)] := if_neg hin
  have sz1 : (SetTable.insertAt es (SetTable.below t.place (way t.mask (zkk prog w k) n0).j) (zkk prog w k, Value.ref b)).size = σ.length + 1 := by
   have := pm1.length_eq
   rw [zbb, zad, zap] at this
   exact this
  have hpl : t.place.size = σ.length := T.size.trans hel
  refine zac (wpAny_storeSet_of ho hd ?_ (by rw [sz1, zdo]; omega))
  have sb1 := zcr s.heap a (Obj.putSet (SetTable.insertAt es (SetTable.below t.place (way t.mask (zkk prog w k) n0).j) (zkk prog w k, Value.ref b)) { t with place := SetTable.insertAt t.place (SetTable.below t.place (way t.mask (zkk prog w k) n0).j) (way t.mask (zkk prog w k) n0).j })
  have tk1 : ∀ {h' : Heap}, Heap.SameBut a s.heap h' -> ∀ x ∈ σ ++ [(k, b)], IsTK prog w h' x.1 x.2 := fun {h'} sb x hx => by
   rcases zcc.mp hx with hx | hx
   ·exact ycx (tk x hx) ho hd sb
   ·rw [zaw.mp hx]; exact ycx hk ho hd sb
  have g1 := zvw (es' := SetTable.insertAt es (SetTable.below t.place (way t.mask (zkk prog w k) n0).j) (zkk prog w k, Value.ref b)) (t' := { t with place := SetTable.insertAt t.place (SetTable.below t.place (way t.mask (zkk prog w k) n0).j) (way t.mask (zkk prog w k) n0).j }) ho hd
  have ps1 : (SetTable.insertAt t.place (SetTable.below t.place (way t.mask (zkk prog w k) n0).j) (way t.mask (zkk prog w k) n0).j).size = σ.length + 1 := T1.size.trans sz1
  have few1 : ∀ (full : Bool), SetTable.tooFull { t with place := SetTable.insertAt t.place (SetTable.below t.place (way t.mask (zkk prog w k) n0).j) (way t.mask (zkk prog w k) n0).j } = full -> full = decide ((σ.length + 1) * 5 >= t.mask * 3) := fun full e => by
   rw [<- e]
   unfold SetTable.tooFull SetTable.fill
   dsimp only
   rw [ps1, T.dum]
   rfl
  simp only [zgk, zij]
  rw [few1 _ rfl]
  by_cases hfull : (σ.length + 1) * 5 >= t.mask * 3
  ·rw [decide_eq_true hfull]
   simp only [if_true]
   obtain ⟨m', hm', hw', hl', hf'⟩ : ∃ m', okM m' /\ SetTable.sizeAbove (SetTable.grown (es.size + 1)) = m' + 1 /\ σ.length + 1 <= m' /\ (σ.length + 1) * 5 < m' * 3 := by
    rcases T.mask with e | e | e
    ·have : σ.length = 4 := by omega
     rw [hel, this]
     exact ⟨31, .inr (.inl rfl), by decide +kernel, by decide, by decide⟩
    ·have : σ.length = 18 := by omega
     rw [hel, this]
     exact ⟨127, .inr (.inr rfl), by decide +kernel, by decide, by decide⟩
    ·omega
   refine zac (yid g1 rfl (T1.fits ?_) hm' hw' (by rw [sz1]; exact hl') fun es' t' T' tm tl tp pe => ?_)
   ·show (SetTable.insertAt t.place (SetTable.below t.place (way t.mask (zkk prog w k) n0).j) (way t.mask (zkk prog w k) n0).j).size <= t.mask
    rw [ps1]
    rcases T.mask with e | e | e <;> omega
   ·have sb2 := sb1.trans (zcr _ a (Obj.putSet es' t'))
    refine zag (h _ _ sb2 ?_)
    rw [ak]
    refine ⟨_, es', ep + 1 + 1, t', zvw g1 rfl, hx, rfl, T', tp.trans pl, tl.trans ld, ?_, pe.trans pm1, nd1, tk1 sb2⟩
    have := pe.length_eq
    rw [zbb, zbb, sz1] at this
    rw [T'.size, this, tm]
    exact hf'
  ·rw [decide_eq_false hfull]
   simp only [zay, if_false]
   refine zag (h _ _ sb1 ?_)
   rw [ak]
   refine ⟨_, _, ep + 1, _, g1, hx, rfl, T1, pl, ld, ?_, pm1, nd1, tk1 sb1⟩
   show (SetTable.insertAt t.place (SetTable.below t.place (way t.mask (zkk prog w k) n0).j) (way t.mask (zkk prog w k) n0).j).size * 5 < t.mask * 3
   rw [ps1]
   omega
end
end DL
namespace DL
open PySem
noncomputable def zmq (xs : List (List Int × Addr)) : List (List Int × Addr) := xs.foldl (fun σ x => addK σ x.1 x.2) []
theorem zyo (xs : List (List Int × Addr)) (x : List Int × Addr) : zmq (xs ++ [x]) = addK (zmq xs) x.1 x.2 := by
 unfold zmq; rw [List.foldl_append]; rfl
theorem yku (σ : List (List Int × Addr)) (k : List Int) (b : Addr) : (addK σ k b).length <= σ.length + 1 := by
 unfold addK; split
 ·omega
 ·rw [zap]; exact zai _
theorem ykt {σ : List (List Int × Addr)} {k : List Int} {b : Addr} {x : List Int × Addr} (h : x ∈ addK σ k b) : x ∈ σ ∨ x = (k, b) := by
 unfold addK at h; split at h
 ·exact .inl h
 ·rcases zcc.mp h with h | h
  ·exact .inl h
  ·exact .inr (zaw.mp h)
theorem yae : ∀ (xs σ : List (List Int × Addr)), (xs.foldl (fun σ x => addK σ x.1 x.2) σ).length <= σ.length + xs.length
 | [], σ => zai _
 | x :: xs, σ => by
  have h1 := yae xs (addK σ x.1 x.2)
  have h2 := yku σ x.1 x.2
  rw [zhm, zah]
  omega
theorem ztq (xs : List (List Int × Addr)) : (zmq xs).length <= xs.length := by
 have := yae xs []
 rw [zbq, zff] at this
 exact this
theorem yad : ∀ {xs σ : List (List Int × Addr)} {x}, x ∈ xs.foldl (fun σ x => addK σ x.1 x.2) σ -> x ∈ σ ∨ x ∈ xs
 | [], _, _, h => .inl h
 | y :: xs, σ, x, h => by
  rcases yad (xs := xs) h with h | h
  ·rcases ykt h with h | h
   ·exact .inl h
   ·exact .inr (by rw [h]; exact .head _)
  ·exact .inr (.tail _ h)
theorem zoc {xs : List (List Int × Addr)} {x} (h : x ∈ zmq xs) : x ∈ xs := by
 rcases yad h with h | h
 ·cases h
 ·exact h
section
variable {prog : Program} {w : World} {A : Around} {E : Value -> Shared -> Prop} {s : Shared}
noncomputable abbrev zmj (led : Bool) : Obj := { cls := .type "set", dict := none, data := .set #[] 0 (.fresh 0 0 led) }
theorem SetP.fresh {h : Heap} {a : Addr} {led : Bool} (ho : h.get? a = some (zmj led)) : SetP prog w h a led [] :=
 ⟨_, _, _, _, ho, ⟨rfl, rfl, rfl⟩, rfl, TOk.fresh 0 0 led, rfl, rfl, by show 0 * 5 < 7 * 3; decide, zeg _, zhw, fun x hx => by cases hx⟩
theorem zxe {R : Result -> Shared -> Prop} {S I l : Addr} {led : Bool} {xs : List (List Int × Addr)} {items : Array Value} (hh : A.in1.handled = none) (hlI : l ≠ I) (hSI : S ≠ I) (hSl : S ≠ l) (hit : items.toList = xs.map fun x => Value.ref x.2) (hxI : ∀ x ∈ xs, x.2 ≠ I) (hxS : ∀ x ∈ xs, x.2 ≠ S)
  (hu : A.in1.units < cLine) (hn : xs.length <= 70) : ∀ (left done : List (List Int × Addr)) (s : Shared), xs = done ++ left -> s.heap.IsListIter I l done.length -> s.heap.IsList l items -> (∀ x ∈ xs, IsTK prog w s.heap x.1 x.2) -> SetP prog w s.heap S led (zmq done) ->
   (∀ h' tk, (∀ b o, b ≠ S -> b ≠ I -> s.heap.get? b = some o -> h'.get? b = some o) -> SetP prog w h' S led (zmq xs) -> R (.ok (.ret .none)) { s with heap := h', toks := tk }) ->
   codeAny (model prog w) A (.builtin "set.update.loop" ⟨[.ref S, .ref I], []⟩) R s
 | [], done, s, hx, h1, h2, h3, h4, hR => by
  rw [zdi] at hx
  subst hx
  refine zek zfm ?_
  rw [zds zdm _]
  have hsz : items.size = xs.length := by rw [<- zbb, hit, zad]
  have W := Walks.list (prog := prog) (w := w) hh I l hlI items
  show wpAny _ A.in1 (pyNext (.ref I) >>= _) _ _ s
  refine zac (W.done s _ _ ⟨by rw [hsz]; exact h1, h2⟩ fun h' tk kp => ?_)
  have kp' : ∀ b o, b ≠ I -> s.heap.get? b = some o -> h'.get? b = some o := fun b o hb e => kp b o (by simpa using hb) e
  refine zag (hR h' tk (fun b o _ hb e => kp' b o hb e) (h4.at fun b o e hb => kp' b o ?_ e))
  rcases hb with e | ⟨x, hx, e⟩
  ·rw [e]; exact hSI
  ·rw [e]; exact hxI x (zoc hx)
 | x :: left, done, s, hx, h1, h2, h3, h4, hR => by
  refine zek zfm ?_
  rw [zds zdm _]
  have hsz : items.size = xs.length := by rw [<- zbb, hit, zad]
  have W := Walks.list (prog := prog) (w := w) hh I l hlI items
  have hlt : done.length < items.size := by rw [hsz, hx, zap, zah]; omega
  show wpAny _ A.in1 (pyNext (.ref I) >>= _) _ _ s
  refine zac (W.item done.length s _ _ hlt ⟨h1, h2⟩ fun v h' tk hv st' kp => ?_)
  have ev : v = .ref x.2 := by
   rw [<- zas, hit, hx, zbw, zao (by rw [zad]; exact zai _), zad, zeq] at hv
   exact (zbk hv).symm
  subst ev
  have hxm : x ∈ xs := by rw [hx]; exact zbo _ (.head _)
  have kp' : ∀ b o, b ≠ I -> s.heap.get? b = some o -> h'.get? b = some o := fun b o hb e => kp b o (by simpa using hb) e
  have tk' : ∀ y ∈ xs, IsTK prog w h' y.1 y.2 := fun y hy => by
   refine x3_2 (h3 y hy) fun o' its n ho' r => ?_
   exact ⟨o', its, n, kp' _ _ (hxI y hy) ho', r⟩
  have S' : SetP prog w h' S led (zmq done) := h4.at fun b o e hb => kp' b o (by
   rcases hb with e | ⟨y, hy, e⟩
   ·rw [e]; exact hSI
   ·rw [e]; exact hxI y (by rw [hx]; exact zdu _ (zoc hy))) e
  show wpAny _ A.in1 (holding [Value.ref x.2] (setAdd S (.ref x.2)) >>= _) _ _ _
  refine zac (zby ?_)
  unfold setAdd
  refine zby (zac (wpAny_pyHash_tuple hu (tk' x hxm) ?_))
  have hl70 : (zmq done).length <= 70 := by
   have := ztq done
   rw [hx, zap] at hn
   omega
  refine add_ok (s := { s with heap := h', toks := tk + (x.1.length + 1) }) S' (tk' x hxm) hu hl70 fun r h2' sb S2 => ?_
  have hS2 : SetP prog w h2' S led (zmq (done ++ [x])) := by rw [zyo]; exact S2
  refine zag ⟨zgb zdm _, zxe hh hlI hSI hSl hit hxI hxS hu hn left (done ++ [x]) _ (by rw [hx]; simp) ?_ ?_ ?_ hS2 fun h3' tk3 kp3 S3 => ?_⟩
  ·rw [zap]
   exact st'.1.at fun o e => by
    rw [sb.2 I (zda hSI)]; exact e
  ·exact st'.2.at fun o e => by
    rw [sb.2 l (zda hSl)]; exact e
  ·intro y hy
   refine x3_2 (tk' y hy) fun o' its n ho' r => ?_
   exact ⟨o', its, n, by rw [sb.2 _ (hxS y hy)]; exact ho', r⟩
  ·exact hR h3' tk3 (fun b o hb1 hb2 e => kp3 b o hb1 hb2 (by rw [sb.2 b hb1]; exact kp' b o hb2 e)) S3
theorem ydf (v : Value) {Z : Value -> Shared -> Prop} (h : Z (.ref s.heap.objs.size) { s with heap := s.heap.push (zmj (!w.params.followText "set-order")) }) :
  codeAny (model prog w) A (.call (.builtin "set.__new__") ⟨[.type "set", v], []⟩) (wants Z E) s := by
 refine codeAny_of_tree ?_
 show wpAny _ A.in1 (checkBuiltinCall "set.__new__" ⟨[.type "set", v], []⟩ >>= fun _ => again (.builtin "set.__new__" ⟨[.type "set", v], []⟩)) _ _ s
 rw [F.newCall_set_1 v]
 refine zac (zag (zag ⟨zgb F.plain_set_new _, zek F.entry_set_new ?_⟩))
 rw [zds F.plain_set_new _]
 have hs := sub_set_self
 unfold Builtin.«set.__new__» Builtin.Frozenset.newClass
 cases s
 dsimp only
 wp_walk
 refine zez (zag ?_)
 simp only [newObj]
 exact zac (wpAny_alloc (zag (zag h)))
end
end DL
namespace DL
open PySem
section
variable {prog : Program} {w : World} {A : Around} {E : Value -> Shared -> Prop} {s : Shared}
noncomputable abbrev zpv (w : World) : Bool := !w.params.followText "set-order"
theorem yfz {l : Addr} {items : Array Value} {xs : List (List Int × Addr)} {Q : Value -> Shared -> Prop} (hh : A.handled = none) (hu : A.units + 16 < cLine) (hl : s.heap.IsList l items) (hit : items.toList = xs.map fun x => Value.ref x.2) (htk : ∀ x ∈ xs, IsTK prog w s.heap x.1 x.2) (hn : xs.length <= 70)
  (h : ∀ h' tk, SetP prog w h' s.heap.objs.size (zpv w) (zmq xs) -> (∀ b o, s.heap.get? b = some o -> h'.get? b = some o) -> Q (.ref s.heap.objs.size) { s with heap := h', toks := tk }) : wpAny (model prog w) A (call (.type "set") [.ref l]) Q E s := by
 refine x2_1 (zeh.mro) fun mc ml mro => ?_
 have q1 := zeh.made
 have q2 := zeh.sub
 have q3 := zeh.notType
 have q4 := zeh.canCreate
 have q5 := F.typeCall_set_1 (.ref l)
 refine wpAny_call (codeAny_of_tree ?_)
 show wpAny _ _ (callAny (.type "set") _) _ _ _
 refine zag ⟨Code.quiet_builtin _ (by decide +kernel), zek F.entry_type_call ?_⟩
 rw [Around.under_plain (weight_type_call_type "set" [.ref l] []) rfl]
 repeat (any_goals (first | assumption | wp_step))
 refine zgm (ydf (.ref l) (E := E) (Z := fun v s1 => v = .ref s.heap.objs.size /\ s1 = { s with heap := s.heap.push (zmj (zpv w)) }) ⟨rfl, rfl⟩) fun r s1 hr => ?_
 cases r with
 | error e => exact hr
 | ok f =>
  cases f with
  | ret v =>
   refine x0_2 hr fun qz0 qz1 => ?_; clear hr; subst qz0; subst qz1
   have gS : (s.heap.push (zmj (zpv w))).get? s.heap.objs.size = some (zmj (zpv w)) := zbe _ rfl
   have tS : Shared.TypeIs { s with heap := s.heap.push (zmj (zpv w)) } (.ref s.heap.objs.size) "set" := ⟨_, gS, rfl⟩
   have q6 := zeh.init.lookup
   have q7 := zeh.init.bind (.ref s.heap.objs.size)
   repeat (any_goals (first | assumption | wp_step))
   refine zgm (codeAny_call_builtin (R := wants (fun r s2 => r = .none /\ ∃ h' tk, s2 = { s with heap := h', toks := tk } /\ SetP prog w h' s.heap.objs.size (zpv w) (zmq xs) /\ ∀ b o, s.heap.get? b = some o -> h'.get? b = some o) E) zeh.init.plain F.entry_set_init (check_set_init_1 tS ?_)) fun r2 s2 hr2 => ?_
   ·refine xeaaea hl fun ol hol hcl nl hdl => ?_; clear hl
    obtain ⟨oc, od, odt, os⟩ := ol
    dsimp only at hcl hdl
    subst hcl; subst hdl
    have hlS : l < s.heap.objs.size := zam hol
    have gl : (s.heap.push (zmj (zpv w))).get? l = some { cls := .type "list", dict := od, data := .seq items nl, slots := os } := zaf _ hol
    have l1 : (s.heap.push (zmj (zpv w))).IsList l items := ⟨_, gl, rfl, nl, rfl⟩
    have z1 := F.sub_list_set
    have z2 := F.sub_list_frozenset
    have z3 : (Value.type "list" == Value.type "dict") = false := by decide
    unfold Builtin.«set.__init__» noKeywords Builtin.Frozenset.updateFrom
    generalize hPI : pyIter = PI
    wp_walk
    subst hPI
    refine zho l1 (zac (wpAny_runValue ?_))
    have hsz : (s.heap.push (zmj (zpv w))).objs.size = s.heap.objs.size + 1 := zia ..
    have htlt : ∀ x ∈ xs, x.2 < s.heap.objs.size := fun x hx => by
     refine x3_2 (htk x hx) fun o' _ _ ho' _ => ?_
     exact zam ho'
    refine zxe (led := zpv w) (l := l) (items := items) (xs := xs) (by simp [hh]) (by rw [hsz]; exact zbc (zfo hlS)) (by rw [hsz]; exact zbc (zhj _)) (zge hlS) hit (fun x hx => by rw [hsz]; exact zbc (zfo (htlt x hx))) (fun x hx => zbc (htlt x hx)) (by simp; omega) hn xs [] _ rfl ⟨_, zbe _ rfl, rfl, rfl⟩ (l1.push _) (fun x hx => ?_) (SetP.fresh (zaf _ gS)) fun h' tk kp S' => ?_
    ·refine x3_2 (htk x hx) fun o' its n ho' r => ?_
     exact ⟨o', its, n, zaf _ (zaf _ ho'), r⟩
    ·refine zag ?_
     show wpAny _ _ (ret Value.none) _ _ _
     refine zag ⟨rfl, h', tk, rfl, S', fun b o e => ?_⟩
     have hb := zam e
     exact kp b o (zbc hb) (by rw [hsz]; exact zbc (zfo hb)) (zaf _ (zaf _ e))
   ·cases r2 with
    | error e => exact hr2
    | ok f2 =>
     cases f2 with
     | ret r =>
      refine xaeeaaa hr2 fun qz0 h' tk qz3 S' kp => ?_; clear hr2; subst qz0; subst qz3
      repeat (any_goals (first | assumption | wp_step))
      exact h _ _ S' kp
     | _ => exact hr2.elim
  | _ => exact hr.elim
end
end DL
namespace DL
open PySem
theorem ztp {α : Type} : ∀ {l : List α} {i : Nat} (h : i < l.length), (l[i] :: l.eraseIdx i).Perm l
 | [], i, h => by cases h
 | a :: l, 0, h => zeg _
 | a :: l, i + 1, h => by
  have ih := ztp (l := l) (i := i) (by simpa using h)
  rw [zih]
  exact (List.Perm.swap _ _ _).trans (ih.cons a)
theorem ydu {α : Type} {next : Nat -> Nat} : ∀ (fuel k : Nat) (left : List α) (out : Array α), left.length = fuel -> (pickOrder.go next fuel k left out).toList.Perm (out.toList ++ left)
 | 0, k, left, out, h => by
  rw [List.length_eq_zero_iff.mp h, zdi]
  exact zeg _
 | fuel + 1, k, left, out, h => by
  have hlt : next k % left.length < left.length := zel _ (by omega)
  unfold pickOrder.go
  rw [zae hlt]
  dsimp only
  refine (ydu fuel (k + 1) _ _ (by rw [List.length_eraseIdx_of_lt hlt]; omega)).trans ?_
  rw [zfn, zck]
  exact (ztp hlt).append_left _
theorem ydt {α : Type} (next : Nat -> Nat) (xs : Array α) : (pickOrder next xs).toList.Perm xs.toList := by
 have := ydu (next := next) xs.size 0 xs.toList #[] (by simp)
 simpa [pickOrder] using this
noncomputable def zoh (w : World) (S : Addr) (ep : Nat) (es : Array (Int × Value)) : Array (Int × Value) := if w.params.followText "set-order" = true then pickOrder (w.params.setOrder S ep) es else es
theorem zzn (w : World) (S : Addr) (ep : Nat) (es : Array (Int × Value)) : (zoh w S ep es).toList.Perm es.toList := by
 unfold zoh; split
 ·exact ydt _ _
 ·exact zeg _
theorem zqw (w : World) (S : Addr) (ep : Nat) (es : Array (Int × Value)) : (zoh w S ep es).size = es.size := by
 have := (zzn w S ep es).length_eq
 simpa using this
noncomputable def zma (w : World) (t : SetTable) (i : Nat) : Nat := if w.params.followText "set-order" = true then 0 else if i = 0 then 0 else t.place.getD (i - 1) 0 + 1
theorem ycb {w : World} {t : SetTable} {es : Array (Int × Value)} (T : TOk t es) (hw : ¬ w.params.followText "set-order" = true) {i : Nat} (hi : i <= t.place.size) : SetTable.below t.place (zma w t i) = i := by
 refine x0_3 (zph (j := zma w t i) T.ris) fun a b c => ?_
 generalize hp : SetTable.below t.place (zma w t i) = p at a b c
 unfold zma at b c
 rw [if_neg hw] at b c
 rcases zjz p i with q | q | q
 ·exfalso
  have e : t.place[p]? = some (t.place[p]'(by omega)) := zat _
  have h1 := c p _ (zai _) e
  rw [if_neg (by omega)] at h1
  have e2 : t.place[i - 1]? = some (t.place[i - 1]'(by omega)) := zat _
  have e3 : t.place.getD (i - 1) 0 = t.place[i - 1]'(by omega) := by simp [Array.getD, show i - 1 < t.place.size by omega]
  rw [e3] at h1
  by_cases z : p = i - 1
  ·subst z; omega
  ·have := zwl T.ris (show p < i - 1 by omega) e e2
   omega
 ·exact q
 ·exfalso
  have e : t.place[i]? = some (t.place[i]'(by omega)) := zat _
  have h1 := b i _ q e
  by_cases z : i = 0
  ·rw [if_pos z] at h1; omega
  ·rw [if_neg z] at h1
   have e2 : t.place[i - 1]? = some (t.place[i - 1]'(by omega)) := zat _
   have e3 : t.place.getD (i - 1) 0 = t.place[i - 1]'(by omega) := by simp [Array.getD, show i - 1 < t.place.size by omega]
   rw [e3] at h1
   have := zwl T.ris (show i - 1 < i by omega) e2 e
   omega
section
variable {prog : Program} {w : World} {A : Around} {E : Value -> Shared -> Prop} {s : Shared}
structure SetAt (w : World) (h : Heap) (S : Addr) (es : Array (Int × Value)) (ep : Nat) (t : SetTable) : Prop where
 ob : ∃ o, h.get? S = some o /\ o.ExactSet /\ o.data = .set es ep t
 ok : TOk t es
 plain : t.plain = true
 led : t.led = zpv w
 few : t.place.size * 5 < t.mask * 3
theorem SetAt.fits {h : Heap} {S : Addr} {es : Array (Int × Value)} {ep : Nat} {t : SetTable} (X : SetAt w h S es ep t) : t.fits es.size = true := X.ok.fits (by have := X.few; omega)
theorem SetAt.at {h h' : Heap} {S : Addr} {es : Array (Int × Value)} {ep : Nat} {t : SetTable} (X : SetAt w h S es ep t) (k : ∀ o, h.get? S = some o -> h'.get? S = some o) : SetAt w h' S es ep t := by
 obtain ⟨⟨o, ho, r⟩, b, c, d, e⟩ := X
 exact ⟨⟨o, k o ho, r⟩, b, c, d, e⟩
theorem SetAt.state {S : Addr} {es : Array (Int × Value)} {ep : Nat} {t : SetTable} (X : SetAt w s.heap S es ep t) {Q : (Array (Int × Value) × Nat × SetTable) -> Shared -> Prop} (h : Q (es, ep, t) s) : wpAny (model prog w) A (setState S) Q E s := by
 refine x1_3 (X.ob) fun o ho hx hd => ?_
 exact zdy ho hd X.fits h
noncomputable def IsSetIter (h : Heap) (I S : Addr) (sl i n ep : Nat) : Prop := ∃ o, h.get? I = some o /\ o.cls = .type "set_iterator" /\ o.data = .fields #[.int sl 0, .int i 0, .ref S, .int n 0, .int ep 0]
theorem IsSetIter.typeIs {I S : Addr} {sl i n ep : Nat} (x : IsSetIter s.heap I S sl i n ep) : s.TypeIs (.ref I) "set_iterator" := let ⟨o, ho, hc, _⟩ := x; ⟨o, ho, hc⟩
theorem slot_sin : Slot "set_iterator" "__next__" "set_iterator.__next__" :=
 .of (owner := "set_iterator") (n := "__next__") (by rw [zgl, zeu]; kernel_rfl) (by decide +kernel) (by decide +kernel) (by decide +kernel) (by first | exact .inl (by decide +kernel) | exact .inr (by decide +kernel)) (by rw [zgu]; kernel_rfl)
theorem zxf : entryFor table "set_iterator.__next__" = some Builtin.«set_iterator.__next__» := entryFor_of_fast (by kernel_rfl)
theorem yaq (a : Value) : argsOk "set_iterator.__next__" ⟨[a], []⟩ := by unfold argsOk; kernel_rfl
theorem yfn : entryFor table "set.__iter__" = some Builtin.«frozenset.__iter__» := entryFor_alias (id' := "frozenset.__iter__") (by kernel_rfl) rfl (by decide +kernel) (by kernel_rfl)
theorem ztk {S : Addr} {es : Array (Int × Value)} {ep i : Nat} {t : SetTable} (X : SetAt w s.heap S es ep t) (hi : i <= es.size) {Q : Option (Value × Nat) -> Shared -> Prop} (h : Q (((zoh w S ep es)[i]?).map fun e => (e.2, zma w t (i + 1))) s) :
  wpAny (model prog w) A (setNext S (zma w t i) i ep) Q E s := by
 unfold setNext
 refine zac (X.state ?_)
 dsimp only
 unfold setsByText
 refine zac (zac (zez (zag ?_)))
 show wpAny _ _ (if (w.params.followText "set-order") = true then _ else _) _ _ _
 by_cases hw : w.params.followText "set-order" = true
 ·rw [if_pos hw]
  simp only [bne_self_eq_false, zay, if_false]
  unfold setWalk
  refine zac (zac (X.state ?_))
  dsimp only
  unfold setsByText
  refine zac (zac (zez (zag ?_)))
  show wpAny _ _ (if (w.params.followText "set-order") = true then _ else _) _ _ _
  rw [if_pos hw]
  refine zac (zez (zag (zag ?_)))
  have e1 : zoh w S ep es = pickOrder (w.params.setOrder S ep) es := if_pos hw
  have e2 : ∀ j, zma w t j = 0 := fun j => if_pos hw
  rw [e1, e2] at h
  rw [e2]
  exact h
 ·rw [if_neg hw]
  show wpAny _ _ (if (!t.plain && decide (es.size > 1)) = true then _ else _) _ _ _
  rw [if_neg (by rw [X.plain]; simp)]
  have hled : t.led = true := by rw [X.led]; unfold zpv; simpa using hw
  refine zac (m := _) (zfd (Q := fun _ s' => s' = s) ?_ (fun _ s' hs' => ?_) fun _ _ e => e)
  ·show wpAny _ _ (if (!t.led && !es.isEmpty) = true then unsupported "set:maker-not-led" else pure ()) _ _ _
   rw [if_neg (by rw [hled]; simp)]
   exact zag rfl
  ·subst hs'
   rw [ycb X.ok hw (by rw [X.ok.size]; exact hi)]
   refine zag ?_
   have e1 : zoh w S ep es = es := if_neg hw
   rw [e1] at h
   cases e : es[i]? with
   | none => rw [e] at h; exact h
   | some x =>
    rw [e] at h
    have hlt : i < es.size := (zbt.mp e).1
    have hlt2 : i < t.place.size := by rw [X.ok.size]; exact hlt
    rw [zat hlt2]
    have e4 : zma w t (i + 1) = t.place[i] + 1 := by
     unfold zma
     rw [if_neg hw, if_neg (by omega)]
     simp [Array.getD, hlt2]
    rw [e4] at h
    exact h
theorem yeg {S I : Addr} {es : Array (Int × Value)} {ep i : Nat} {t : SetTable} {x : Value} (X : SetAt w s.heap S es ep t) (hi : IsSetIter s.heap I S (zma w t i) i es.size ep) (hSI : S ≠ I) (hx : ((zoh w S ep es)[i]?).map (·.2) = some x) {Q : Option Value -> Shared -> Prop}
  (hQ : ∀ h', IsSetIter h' I S (zma w t (i + 1)) (i + 1) es.size ep -> Heap.SameBut I s.heap h' -> Q (some x) { s with heap := h' }) : wpAny (model prog w) A (pyNext (.ref I)) Q E s := by
 have hlt : i < es.size := by
  rw [<- zqw w S ep es]
  refine x1_2 (zab.mp hx) fun e he _ => ?_
  exact (zbt.mp he).1
 have hT := hi.typeIs
 refine x1_3 hi fun o ho hc hd => ?_; clear hi
 unfold pyNext
 refine zac (wpAny_attempt (wpAny_callSpecial?_slot (name := Str.ofString "__next__") hT slot_sin (zey slot_sin hT zxf ?_ (yaq _))))
 show wpAny _ _ (fieldsOf (.ref I) >>= _) _ _ s
 refine zac (wpAny_fieldsOf ho hd ?_)
 show wpAny _ _ (setEntries S >>= _) _ _ s
 unfold setEntries
 refine zac (zac (X.state (zag ?_)))
 simp only [bne_self_eq_false, zay, if_false]
 refine zac (ztk (i := i) X (zfg hlt) ?_)
 refine x1_2 (zab.mp hx) fun e he ex => ?_
 rw [he]
 subst ex
 dsimp only [zbv]
 refine zac (zir ho hd (by simp) ?_)
 have g1 := zco (Obj.mapFields (·.setIfInBounds 0 (rawInt (zma w t (i + 1))))) ho (zit (zfe hd _))
 have d1 := zfe hd (·.setIfInBounds 0 (rawInt (zma w t (i + 1))))
 refine zac (zir g1 d1 (by simp) ?_)
 refine zag ⟨_, rfl, zag (hQ _ ?_ ((zcr ..).trans (zcr ..)))⟩
 refine ⟨_, zco _ g1 (zit (zfe d1 _)), (zjy ..).trans ((zjy ..).trans hc), ?_⟩
 rw [zfe d1]
 simp [rawInt]
end
end DL
namespace DL
open PySem
section
variable {prog : Program} {w : World} {A : Around} {E : Value -> Shared -> Prop} {s : Shared}
theorem yiq {S I : Addr} {es : Array (Int × Value)} {ep : Nat} {t : SetTable} (hh : A.handled = none) (X : SetAt w s.heap S es ep t) (hi : IsSetIter s.heap I S (zma w t es.size) es.size es.size ep) {Q : Option Value -> Shared -> Prop}
  (hQ : ∀ h', Heap.ExtBut I s.heap h' -> Q none { s with heap := h' }) : wpAny (model prog w) A (pyNext (.ref I)) Q E s := by
 have hT := hi.typeIs
 refine x1_3 hi fun o ho hc hd => ?_; clear hi
 unfold pyNext
 refine zac (wpAny_attempt (wpAny_callSpecial?_slot (name := Str.ofString "__next__") hT slot_sin (zey slot_sin hT zxf ?_ (yaq _))))
 show wpAny _ _ (fieldsOf (.ref I) >>= _) _ _ s
 refine zac (wpAny_fieldsOf ho hd ?_)
 show wpAny _ _ (setEntries S >>= _) _ _ s
 unfold setEntries
 refine zac (zac (X.state (zag ?_)))
 simp only [bne_self_eq_false, zay, if_false]
 refine zac (ztk (i := es.size) X (zai _) ?_)
 have e : (zoh w S ep es)[es.size]? = none := by
  rw [<- zqw w S ep es]; simp
 rw [e]
 dsimp only [zjp]
 refine zac (zir ho hd (by simp) ?_)
 refine zac ?_
 simp only [newExc, newTuple]
 refine zac (zdz ?_ (by size_fits))
 refine zac (m := firstArgMember _ _) (wpAny_of_eq (a := Value.none) (by first | rfl | (simp only [firstArgMember]; rfl)) ?_)
 refine zdz ?_ (by size_fits)
 simp only [raiseNew]
 refine zac (wpAny_handled ?_)
 rw [show A.in1.handled = none from hh]
 refine zac (zag (wpAny_throw ?_))
 refine zac (zib (T := "StopIteration") (b := true) ⟨_, zbe _ rfl, rfl⟩ isSubtype_stop (zag (hQ _ ?_)))
 exact ((zcr ..).extBut.push _).push _
theorem zzb : Slot "set_iterator" "__iter__" "set_iterator.__iter__" :=
 .of (owner := "set_iterator") (n := "__iter__") (by rw [zgl, zeu]; kernel_rfl) (by decide +kernel) (by decide +kernel) (by decide +kernel) (by first | exact .inl (by decide +kernel) | exact .inr (by decide +kernel)) (by rw [zgu]; kernel_rfl)
theorem yfo : entryFor table "set_iterator.__iter__" = some Builtin.«dict_keyiterator.__iter__» := entryFor_alias (id' := "dict_keyiterator.__iter__") (by kernel_rfl) rfl (by decide +kernel) (by kernel_rfl)
theorem yks (a : Value) : argsOk "set_iterator.__iter__" ⟨[a], []⟩ := by unfold argsOk; kernel_rfl
theorem ycg (hh : A.handled = none) {S I : Addr} {es : Array (Int × Value)} {ep : Nat} {t : SetTable} (hSI : S ≠ I) :
  PySem.Walks prog w A I [I, S] [I] es.size (fun i v => ((zoh w S ep es)[i]?).map (·.2) = some v) (fun i h => SetAt w h S es ep t /\ IsSetIter h I S (zma w t i) i es.size ep) where
 sub := fun b hb => by simp at hb; simp [hb]
 frame := fun i h h' st hk => by
  refine xaeaa st fun a o ho r => ?_; clear st
  exact ⟨a.at fun o e => hk S (by simp) o e, o, hk I (by simp) o ho, r⟩
 item := fun i s Q E hi st hQ => by
  have hlt : i < (zoh w S ep es).size := by rw [zqw]; exact hi
  have hx : ((zoh w S ep es)[i]?).map (·.2) = some ((zoh w S ep es)[i].2) := by rw [zat hlt]; rfl
  refine yeg st.1 st.2 hSI hx fun h' it' sb => ?_
  exact hQ _ h' s.toks hx ⟨st.1.at fun o e => (sb.2 S hSI).trans e, it'⟩ fun b o hb e => (sb.2 b fun q => hb (by simp [q])).trans e
 done := fun s Q E st hQ => yiq hh st.1 st.2 fun h' x => hQ h' s.toks fun b o hb e => x b o (fun q => hb (by simp [q])) e
 self := fun i s Q E st hQ => by
  have hT := st.2.typeIs
  refine wpAny_pyIter_slot hT zzb (zey zzb hT yfo ?_ (yks _))
  show wpAny _ _ (ret (.ref I)) _ _ s
  exact zag ⟨_, rfl, "set_iterator", _, hT, slot_sin.lookup, hQ⟩
noncomputable abbrev zlv (S : Addr) (n ep : Nat) : Obj := { cls := .type "set_iterator", data := .fields #[.int 0 0, .int 0 0, .ref S, .int n 0, .int ep 0] }
theorem yje {S : Addr} {es : Array (Int × Value)} {ep : Nat} {t : SetTable} (X : SetAt w s.heap S es ep t) {Q : Value -> Shared -> Prop} (hQ : Q (.ref s.heap.objs.size) { s with heap := s.heap.push (zlv S es.size ep) }) : wpAny (model prog w) A (pyIter (.ref S)) Q E s := by
 have hT : s.TypeIs (.ref S) "set" := by
  refine x1_3 (X.ob) fun o ho hx _ => ?_
  exact ⟨o, ho, hx.1⟩
 refine wpAny_pyIter_slot hT F.slot_set_iter (zey F.slot_set_iter hT yfn ?_ (F.args_set_iter_1 _))
 show wpAny _ _ (Builtin.Frozenset.sizeOf S >>= _) _ _ s
 unfold Builtin.Frozenset.sizeOf setEntries
 refine zac (zac (zac (X.state (zag (zag ?_)))))
 unfold setDrawn
 refine zac (zac (X.state ?_))
 dsimp only
 unfold setsByText
 refine zac (zac (zez (zag ?_)))
 show wpAny _ _ (pure (!w.params.followText "set-order" && (!t.plain && decide (es.size > 1)))) _ _ _
 refine zag ?_
 rw [show (!w.params.followText "set-order" && (!t.plain && decide (es.size > 1))) = false by rw [X.plain]; simp]
 simp only [zay, if_false]
 refine zac (zag ?_)
 unfold setEpoch
 refine zac (zac (X.state (zag ?_)))
 refine zac (zdz (zag ⟨_, rfl, "set_iterator", _, ⟨_, zbe _ rfl, rfl⟩, slot_sin.lookup, hQ⟩))
theorem yiy {S : Addr} {es : Array (Int × Value)} {ep : Nat} {t : SetTable} (X : SetAt w s.heap S es ep t) {Q : Bool -> Shared -> Prop} (hQ : Q false s) : wpAny (model prog w) A (Builtin.List.listLengthHint (.ref S)) Q E s := by
 have hT : s.TypeIs (.ref S) "set" := by
  refine x1_3 (X.ob) fun o ho hx _ => ?_
  exact ⟨o, ho, hx.1⟩
 unfold Builtin.List.listLengthHint
 refine zac (zfk hT F.slot_set_len.lookup ?_)
 generalize hid : ("set.__len__" : String) = id0
 wp_delta
 rw [show splitId id0 = some ("set", "__len__") from by subst hid; decide +kernel]
 subst hid
 refine zac (zib (b := true) hT (by rw [zgu]; kernel_rfl) ?_)
 refine zac (zhu hT ?_)
 exact zag hQ
theorem zyr {S : Addr} {es : Array (Int × Value)} {ep : Nat} {t : SetTable} {Q : List Value -> Shared -> Prop} (hh : A.handled = none) (X : SetAt w s.heap S es ep t)
  (hQ : ∀ h' tk, s.heap.objs.size < h'.objs.size -> (∀ b o, s.heap.get? b = some o -> h'.get? b = some o) -> Q ((zoh w S ep es).toList.map (·.2)) { s with heap := h', toks := tk }) : wpAny (model prog w) A (collect (.ref S)) Q E s := by
 have hSlt : S < s.heap.objs.size := by
  refine x1_2 (X.ob) fun o ho _ => ?_
  exact zam ho
 unfold collect
 refine zac (wpAny_runValue (zek F.entry_proto_collect ?_))
 rw [zds F.plain_proto_collect _]
 show wpAny _ A.in1 (newList [] >>= fun l => again (.builtin "list.__iadd__" ⟨[l, .ref S], []⟩)) _ _ s
 refine zac (zdz (zag ⟨zgb F.plain_list_iadd _, zek F.entry_list_iadd ?_⟩))
 rw [zds F.plain_list_iadd _]
 have X1 : SetAt w (s.heap.push { cls := .type "list", data := .seq ([] : List Value).toArray }) S es ep t := X.at fun o e => zaf _ e
 have hT : Shared.TypeIs { s with heap := s.heap.push { cls := .type "list", data := .seq ([] : List Value).toArray } } (.ref S) "set" := by
  refine x1_3 (X1.ob) fun o ho hx _ => ?_
  exact ⟨o, ho, hx.1⟩
 show wpAny _ A.in1 (Builtin.List.listExtendWith (.ref s.heap.objs.size) (.ref S) (.ref s.heap.objs.size)) _ _ _
 unfold Builtin.List.listExtendWith
 refine zac (zhu hT ?_)
 have n1 : Builtin.List.listSameRef (.ref s.heap.objs.size) (.ref S) = false := by simp [Builtin.List.listSameRef, zge hSlt]
 rw [if_neg (by rw [n1]; decide)]
 refine zac (yje X1 ?_)
 have X2 : SetAt w ((s.heap.push { cls := .type "list", data := .seq ([] : List Value).toArray }).push (zlv S es.size ep)) S es ep t := X1.at fun o e => zaf _ e
 refine zac (zby (yiy X2 ?_))
 have hsz : (s.heap.push { cls := .type "list", data := .seq ([] : List Value).toArray }).objs.size = s.heap.objs.size + 1 := zia ..
 generalize hIa : (s.heap.push { cls := .type "list", data := .seq ([] : List Value).toArray }).objs.size = Ia
 have hIa' : Ia = s.heap.objs.size + 1 := hIa.symm.trans hsz
 show wpAny _ A.in1 (rule "list.extend.makes-room" >>= fun _ => Builtin.List.listTouch (.ref s.heap.objs.size) >>= fun _ => again (.builtin "list.extend.loop" ⟨[.ref s.heap.objs.size, .ref Ia, .ref s.heap.objs.size], []⟩)) _ _ _
 have g0 : ((s.heap.push { cls := .type "list", data := .seq ([] : List Value).toArray }).push (zlv S es.size ep)).get? s.heap.objs.size = some { cls := .type "list", data := .seq ([] : List Value).toArray } := zaf _ (zbe _ rfl)
 have gI : ((s.heap.push { cls := .type "list", data := .seq ([] : List Value).toArray }).push (zlv S es.size ep)).get? Ia = some (zlv S es.size ep) := by rw [<- hIa]; exact zbe _ rfl
 refine zac (wpAny_rule (zac ?_))
 show wpAny _ A.in1 (updateSeq s.heap.objs.size (·.push .none) >>= fun _ => updateSeq s.heap.objs.size (·.pop)) _ _ _
 refine zac (wpAny_updateSeq g0 rfl ?_)
 have g1 := zco (Obj.mapSeq (·.push Value.none)) g0 rfl
 refine wpAny_updateSeq g1 rfl ?_
 have g2 := zco (Obj.mapSeq (·.pop)) g1 rfl
 generalize hH : ((((s.heap.push { cls := .type "list", data := .seq ([] : List Value).toArray }).push (zlv S es.size ep)).update s.heap.objs.size (Obj.mapSeq (·.push Value.none))).update s.heap.objs.size (Obj.mapSeq (·.pop))) = hp
 rw [hH] at g2
 have oth : ∀ b o, b ≠ s.heap.objs.size -> ((s.heap.push { cls := .type "list", data := .seq ([] : List Value).toArray }).push (zlv S es.size ep)).get? b = some o -> hp.get? b = some o := fun b o hb e => by
  rw [<- hH]
  exact (zdn _ _ (zda hb)).trans ((zdn _ _ (zda hb)).trans e)
 have hneI : Ia ≠ s.heap.objs.size := by rw [hIa']; exact Nat.succ_ne_self _
 have hneS : S ≠ s.heap.objs.size := zbc hSlt
 have hSI : S ≠ Ia := by rw [hIa']; exact zbc (zfo hSlt)
 have W := (ycg (prog := prog) (w := w) (A := A.in1) (S := S) (I := Ia) (es := es) (ep := ep) (t := t) (by simp [hh]) hSI).toS
 have s0 : zma w t 0 = 0 := by unfold zma; split <;> rfl
 have hsz63 : es.size <= sizeLine := by
  have h1 := X.few
  have h2 := X.ok.size
  have h3 : t.mask <= 127 := by rcases X.ok.mask with e | e | e <;> omega
  rw [zdo]; omega
 refine zag ⟨zgb zkf _, codeAny_extend_loopS W hsz63 s.heap.objs.size (by simp [zda hneI, zda hneS]) _ es.size 0 _ _ _ rfl (zbr _) ⟨X2.at fun o e => oth S o hneS e, _, oth Ia _ hneI gI, rfl, by rw [s0]; rfl⟩ g2 (ItemsOf.nil _) fun s' acc' c' hm hS' hacc => ?_⟩
 show wpAny _ A (load s.heap.objs.size >>= _) _ _ s'
 refine zac (wpAny_load hS' (zag ?_))
 obtain ⟨h', g', d', tk', os'⟩ := s'
 have eg : g' = s.gens := hm.gens
 have ed : d' = s.drawn := hm.drawn
 have eo : os' = s.os := hm.os
 subst eg; subst ed; subst eo
 have ea : acc'.toList = (zoh w S ep es).toList.map (·.2) := by
  refine zgx fun j => ?_
  rw [zak, zas, zas]
  cases z : acc'[j]? with
  | none =>
   have h1 : acc'.size <= j := by simpa using z
   rw [hacc.1] at h1
   have h2 : (zoh w S ep es)[j]? = none := by rw [<- zqw w S ep es] at h1; simpa using h1
   rw [h2]; rfl
  | some v => exact (hacc.2 j v z).symm
 rw [ea]
 refine hQ h' tk' (zam hS') fun b o e => ?_
 have hb := zam e
 exact hm.heap b o (by
  intro q
  rcases zan.mp q with q | q
  ·exact zbc hb q
  ·rw [zaw.mp q, hIa'] at hb
   exact Nat.lt_irrefl _ (Nat.lt_of_succ_lt hb)) (oth b o (zbc hb) (zaf _ (zaf _ e)))
end
end DL
namespace DL
open PySem PySem.W PyProof.Rows
structure Ord (N : Nat) (b : Nat -> Nat -> Bool) : Prop where
 tr : ∀ i j k, b i j = true -> b j k = true -> b i k = true
 tot : ∀ i j, i < N -> j < N -> i ≠ j -> b i j = true ∨ b j i = true
 asy : ∀ i j, b i j = true -> b j i = true -> False
noncomputable def Arr (N : Nat) (p : Array Nat) : Prop := p.toList.Perm (List.range N)
noncomputable def Srt (b : Nat -> Nat -> Bool) (p : Array Nat) (k : Nat) : Prop := ∀ i j, i < j -> j < k -> b (p.getD i 0) (p.getD j 0) = true
section
variable {b : Nat -> Nat -> Bool} {N : Nat} {p : Array Nat}
theorem Arr.size (h : Arr N p) : p.size = N := by
 have := h.length_eq
 simpa using this
theorem gd {i : Nat} (h : i < p.size) : p.getD i 0 = p[i] := by simp [Array.getD, h]
theorem gd? {q : Array Nat} {i j : Nat} (h : p[i]? = q[j]?) : p.getD i 0 = q.getD j 0 := by
 have e : ∀ (a : Array Nat) (k : Nat), a.getD k 0 = (a[k]?).getD 0 := fun a k => by
  by_cases q : k < a.size
  ·rw [gd q, zat q]; rfl
  ·simp [Array.getD, q]
 rw [e, e, h]
theorem Arr.lt (h : Arr N p) (hN : 0 < N) (i : Nat) : p.getD i 0 < N := by
 by_cases q : i < p.size
 ·rw [gd q]
  exact zcl.mp (h.mem_iff.mp (Array.mem_toList_iff.mpr (Array.getElem_mem q)))
 ·rw [show p.getD i 0 = 0 by simp [Array.getD, q]]; exact hN
theorem Arr.inj (h : Arr N p) {i j : Nat} (hi : i < N) (hj : j < N) (e : p.getD i 0 = p.getD j 0) : i = j := by
 have nd : p.toList.Nodup := h.nodup_iff.mpr zkc
 have hi' : i < p.size := by rw [h.size]; exact hi
 have hj' : j < p.size := by rw [h.size]; exact hj
 rw [gd hi', gd hj'] at e
 have := zfh.mp nd
 rcases zjz i j with q | q | q
 ·have hh := this i j hi' hj' q
  rw [zde, zde] at hh
  exact absurd e hh
 ·exact q
 ·have hh := this j i hj' hi' q
  rw [zde, zde] at hh
  exact absurd e.symm hh
theorem Arr.perm {q : Array Nat} (h : Arr N p) (e : q.Perm p) : Arr N q := (Array.perm_iff_toList_perm.mp e).trans h
theorem Srt.more (O : Ord N b) {n : Nat} (h : Srt b p n) (h1 : 1 <= n) (e : b (p.getD (n - 1) 0) (p.getD n 0) = true) : Srt b p (n + 1) := fun i j hij hj => by
 by_cases q : j < n
 ·exact h i j hij q
 ·have : j = n := by omega
  subst this
  by_cases z : i = j - 1
  ·subst z; exact e
  ·exact O.tr _ _ _ (h i (j - 1) (by omega) (by omega)) e
theorem Ord.not (O : Ord N b) (A : Arr N p) {i j : Nat} (hi : i < N) (hj : j < N) (ne : i ≠ j) (h : b (p.getD i 0) (p.getD j 0) = false) : b (p.getD j 0) (p.getD i 0) = true := by
 rcases O.tot (p.getD i 0) (p.getD j 0) (A.lt (by omega) i) (A.lt (by omega) j) (fun e => ne (A.inj hi hj e)) with q | q
 ·rw [h] at q; cases q
 ·exact q
section
variable {cmp : Nat -> Nat -> (Bool -> Shared -> Prop) -> Shared -> Prop} {s : Shared}
noncomputable abbrev zyu (N : Nat) (b : Nat -> Nat -> Bool) (s : Shared) (cmp : Nat -> Nat -> (Bool -> Shared -> Prop) -> Shared -> Prop) : Prop := ∀ (i j : Nat) (C : Bool -> Shared -> Prop), i < N -> j < N -> C (b i j) s -> cmp i j C s
theorem ygq (hc : zyu N b s cmp) (O : Ord N b) (A : Arr N p) : ∀ (f n : Nat) (G : Nat -> Shared -> Prop), 1 <= n -> n + f <= N -> Srt b p n -> (∀ m, n <= m -> m <= n + f -> Srt b p m -> (m < n + f -> b (p.getD m 0) (p.getD (m - 1) 0) = true) -> G m s) -> (kas_asc p f n).kasWp cmp G s
 | 0, n, G, h1, h2, h3, h4 => h4 n (zai _) (by omega) h3 fun h => by omega
 | f + 1, n, G, h1, h2, h3, h4 => by
  unfold kas_asc
  refine hc _ _ _ (A.lt (by omega) _) (A.lt (by omega) _) ?_
  cases e : b (p.getD n 0) (p.getD (n - 1) 0) with
  | true =>
   dsimp only
   rw [if_pos rfl]
   exact h4 n (zai _) (by omega) h3 fun _ => e
  | false =>
   dsimp only
   rw [if_neg zav]
   exact ygq hc O A f (n + 1) G (by omega) (by omega) (h3.more O h1 (O.not A (by omega) (by omega) (by omega) e)) fun m a1 a2 a3 a4 => h4 m (by omega) (by omega) a3 fun z => a4 (by omega)
noncomputable def Fal (b : Nat -> Nat -> Bool) (p : Array Nat) (k : Nat) : Prop := ∀ i j, i < j -> j < k -> b (p.getD j 0) (p.getD i 0) = true
theorem Fal.more (O : Ord N b) {n : Nat} (h : Fal b p n) (h1 : 1 <= n) (e : b (p.getD n 0) (p.getD (n - 1) 0) = true) : Fal b p (n + 1) := fun i j hij hj => by
 by_cases q : j < n
 ·exact h i j hij q
 ·have : j = n := by omega
  subst this
  by_cases z : i = j - 1
  ·subst z; exact e
  ·exact O.tr _ _ _ e (h i (j - 1) (by omega) (by omega))
theorem yfp (hc : zyu N b s cmp) (O : Ord N b) (A : Arr N p) : ∀ (f n : Nat) (G : Array Nat × Nat × Nat -> Shared -> Prop), 1 <= n -> n + f <= N -> Fal b p n -> (∀ m, n <= m -> m <= n + f -> Fal b p m -> G (p, m, 0) s) -> (kas_desc f p n 0).kasWp cmp G s
 | 0, n, G, h1, h2, h3, h4 => h4 n (zai _) (by omega) h3
 | f + 1, n, G, h1, h2, h3, h4 => by
  unfold kas_desc
  refine hc _ _ _ (A.lt (by omega) _) (A.lt (by omega) _) ?_
  cases e : b (p.getD n 0) (p.getD (n - 1) 0) with
  | true =>
   dsimp only
   rw [if_pos rfl, if_neg (by omega)]
   exact yfp hc O A f (n + 1) G (by omega) (by omega) (h3.more O h1 e) fun m a1 a2 a3 => h4 m (by omega) (by omega) a3
  | false =>
   dsimp only
   rw [if_neg zav]
   refine hc _ _ _ (A.lt (by omega) _) (A.lt (by omega) _) ?_
   dsimp only
   rw [O.not A (by omega) (by omega) (by omega) e, if_pos rfl]
   exact h4 n (zai _) (by omega) h3
theorem ydm (A : Arr N p) (i j : Nat) : Arr N (kas_rev p i j) := A.perm (mirror_perm _ _ _ _)
theorem ynk {n : Nat} (hn : n <= p.size) (h : Fal b p n) : Srt b (kas_rev p 0 n) n := fun i j hij hj => by
 have e : ∀ k, k < n -> (kas_rev p 0 n).getD k 0 = p.getD (n - 1 - k) 0 := fun k hk => by
  unfold kas_rev
  refine gd? ?_
  rw [getElem?_mirror_all hn, if_pos (by omega), zff]
 rw [e i (by omega), e j (by omega)]
 exact h _ _ (by omega) (by omega)
theorem yho (hc : zyu N b s cmp) (O : Ord N b) (A : Arr N p) {n : Nat} {G : Nat × Array Nat -> Shared -> Prop} (h1 : 1 <= n) (h2 : n <= N) (h3 : Fal b p n) (h4 : ∀ m q, Arr N q -> 1 <= m -> m <= N -> Srt b q m -> G (m, q) s) : (kas_tail3 n N p).kasWp cmp G s := by
 unfold kas_tail3
 rw [KasT.kasWp_bind]
 exact ygq hc O (ydm A 0 n) (N - n) n _ h1 (by omega) (ynk (by rw [A.size]; exact h2) h3) fun m a1 a2 a3 _ => h4 m _ (ydm A 0 n) (by omega) (by omega) a3
theorem yjz (hc : zyu N b s cmp) (O : Ord N b) (A : Arr N p) {G : Nat × Array Nat -> Shared -> Prop} (hN : 1 <= N) (h4 : ∀ m q, Arr N q -> 1 <= m -> m <= N -> Srt b q m -> G (m, q) s) : (kas_count N p).kasWp cmp G s := by
 unfold kas_count
 rw [KasT.kasWp_bind]
 refine ygq hc O A (N - 1) 1 _ (zai _) (by omega) (fun i j a b => by omega) fun m a1 a2 a3 a4 => ?_
 by_cases e1 : (m == N) = true
 ·rw [if_pos e1]
  exact h4 m p A a1 (by omega) a3
 ·rw [if_neg e1]
  have hm : m < N := by
   have : m ≠ N := fun q => e1 (by rw [q]; exact beq_self_eq_true _)
   omega
  by_cases e2 : m > 1
  ·rw [if_pos e2]
   refine hc _ _ _ (A.lt (by omega) _) (A.lt (by omega) _) ?_
   dsimp only
   rw [a3 0 (m - 1) (by omega) (by omega), if_pos rfl]
   exact h4 m p A a1 (by omega) a3
  ·rw [if_neg e2]
   have : m = 1 := by omega
   subst this
   unfold kas_descPart
   rw [KasT.kasWp_bind]
   refine yfp hc O A (N - (1 + 1)) (1 + 1) _ (by omega) (by omega) (fun i j a c => ?_) fun m b1 b2 b3 => ?_
   ·have h0 : i = 0 := by omega
    have h1 : j = 1 := by omega
    subst h0; subst h1
    exact a4 (by omega)
   ·dsimp only
    rw [if_neg (by omega)]
    exact yho hc O A (by omega) (by omega) b3 h4
theorem zum (hc : zyu N b s cmp) (O : Ord N b) (A : Arr N p) {k : Nat} (hk : k < N) (hs : Srt b p k) : ∀ (f l r : Nat) (G : Nat -> Shared -> Prop), l <= r -> r <= k -> r - l <= f -> (∀ i, i < l -> b (p.getD k 0) (p.getD i 0) = false) -> (∀ i, r <= i -> i < k -> b (p.getD k 0) (p.getD i 0) = true) ->
   (∀ m, m <= k -> (∀ i, i < m -> b (p.getD k 0) (p.getD i 0) = false) -> (∀ i, m <= i -> i < k -> b (p.getD k 0) (p.getD i 0) = true) -> G m s) -> (kas_place p k f l r).kasWp cmp G s
 | 0, l, r, G, h1, h2, h3, h4, h5, h6 => by
  have : l = r := by omega
  subst this
  exact h6 l h2 h4 h5
 | f + 1, l, r, G, h1, h2, h3, h4, h5, h6 => by
  unfold kas_place
  by_cases q : l >= r
  ·rw [if_pos q]
   have : l = r := by omega
   subst this
   exact h6 l h2 h4 h5
  ·rw [if_neg q]
   refine hc _ _ _ (A.lt (by omega) _) (A.lt (by omega) _) ?_
   cases e : b (p.getD k 0) (p.getD ((l + r) / 2) 0) with
   | true =>
    dsimp only
    rw [if_pos rfl]
    refine zum hc O A hk hs f l _ G (by omega) (by omega) (by omega) h4 (fun i hi hik => ?_) h6
    by_cases z : i = (l + r) / 2
    ·subst z; exact e
    ·exact O.tr _ _ _ e (hs _ i (by omega) hik)
   | false =>
    dsimp only
    rw [if_neg zav]
    refine zum hc O A hk hs f _ r G (by omega) h2 (by omega) (fun i hi => ?_) h5 h6
    by_cases z : i = (l + r) / 2
    ·subst z; exact e
    ·cases w : b (p.getD k 0) (p.getD i 0) with
     | false => rfl
     | true =>
      have := O.tr _ _ _ w (hs i ((l + r) / 2) (by omega) (by omega))
      rw [e] at this; cases this
theorem yqi (O : Ord N b) (A : Arr N p) {k m : Nat} (hk : k < N) (hm : m <= k) (hs : Srt b p k) (h1 : ∀ i, i < m -> b (p.getD k 0) (p.getD i 0) = false) (h2 : ∀ i, m <= i -> i < k -> b (p.getD k 0) (p.getD i 0) = true) : Srt b (bubble p k (k - m)) (k + 1) := by
 have hz : k < p.size := by rw [A.size]; exact hk
 have e : ∀ i, (bubble p k (k - m)).getD i 0 = p.getD (if i = m then k else if m < i /\ i <= k then i - 1 else i) 0 := fun i => by
  refine gd? ?_
  rw [getElem?_bubble hz (k - m) (by omega), show k - (k - m) = m by omega]
  by_cases q : i = m
  ·rw [if_pos q, if_pos q]
  ·rw [if_neg q, if_neg q]
   by_cases q2 : m < i /\ i <= k
   ·rw [if_pos q2, if_pos q2]
   ·rw [if_neg q2, if_neg q2]
 intro i j hij hj
 rw [e, e]
 by_cases qi : i = m
 ·rw [if_pos qi, if_neg (by omega), if_pos (by omega)]
  exact h2 _ (by omega) (by omega)
 ·rw [if_neg qi]
  by_cases qi2 : m < i /\ i <= k
  ·rw [if_pos qi2, if_neg (by omega), if_pos (by omega)]
   exact hs _ _ (by omega) (by omega)
  ·rw [if_neg qi2]
   by_cases qj : j = m
   ·rw [if_pos qj]
    exact O.not A hk (by omega) (by omega) (h1 i (by omega))
   ·rw [if_neg qj]
    by_cases qj2 : m < j /\ j <= k
    ·rw [if_pos qj2]
     exact hs _ _ (by omega) (by omega)
    ·rw [if_neg qj2]
     exact hs _ _ (by omega) (by omega)
theorem ymg (O : Ord N b) (hc : zyu N b s cmp) : ∀ (f k : Nat) (p : Array Nat) (G : Array Nat -> Shared -> Prop), Arr N p -> k + f = N -> Srt b p k -> (∀ q, Arr N q -> Srt b q N -> G q s) -> (kas_bin f p k).kasWp cmp G s
 | 0, k, p, G, A, h1, h2, h3 => by
  have : k = N := by omega
  subst this
  exact h3 p A h2
 | f + 1, k, p, G, A, h1, h2, h3 => by
  unfold kas_bin
  rw [KasT.kasWp_bind]
  refine zum hc O A (by omega) h2 k 0 k _ (zbr _) (zai _) (by omega) (fun i hi => by omega) (fun i hi hik => by omega) fun m a1 a2 a3 => ?_
  exact ymg O hc f (k + 1) _ G (A.perm (bubble_perm _ _ _)) (by omega) (yqi O A (by omega) a1 h2 a2 a3) h3
theorem ymz (O : Ord N b) (hc : zyu N b s cmp) (hN : 1 <= N) {G : Array Nat -> Shared -> Prop} (h : ∀ q, Arr N q -> Srt b q N -> G q s) : (kas_sort N).kasWp cmp G s := by
 unfold kas_sort
 rw [KasT.kasWp_bind]
 refine yjz hc O (zeg _) hN fun m q a1 a2 a3 a4 => ?_
 dsimp only
 by_cases e : m < N
 ·rw [if_pos e, show max m 1 = m by omega]
  exact ymg O hc (N - m) m q G a1 (by omega) a4 h
 ·rw [if_neg e]
  have : m = N := by omega
  subst this
  exact h q a1 a4
end
end
end DL
namespace DL
open PySem PySem.W PyProof.Rows
noncomputable def ltK : List Int -> List Int -> Bool
 | [a, b], [c, d] => decide (a < c) || (decide (a = c) && decide (b < d))
 | _, _ => false
noncomputable def isPr : List Int -> Bool
 | [_, _] => true
 | _ => false
theorem ylq : ∀ x y z, ltK x y = true -> ltK y z = true -> ltK x z = true
 | [a, b], [c, d], [e, f], h1, h2 => by
  simp only [ltK, zfz, zaj, decide_eq_true_eq] at h1 h2 ⊢
  omega
theorem zuq : ∀ x y, ltK x y = true -> ltK y x = true -> False
 | [a, b], [c, d], h1, h2 => by
  simp only [ltK, zfz, zaj, decide_eq_true_eq] at h1 h2
  omega
theorem yel : ∀ x y, isPr x = true -> isPr y = true -> x ≠ y -> ltK x y = true ∨ ltK y x = true
 | [a, b], [c, d], _, _, h => by
  simp only [ltK, zfz, zaj, decide_eq_true_eq]
  have : ¬ (a = c /\ b = d) := fun hz => x0_2 hz fun e1 e2 => h (by rw [e1, e2])
  omega
theorem zuj {prog : Program} {w : World} {a b : Int} {vs : List Value} (h : ItemsAre (intKind prog w) [a, b] vs) : ∃ t u, vs = [.int a t, .int b u] := by
 cases h with
 | cons h1 h2 =>
  cases h2 with
  | cons h2 h3 =>
   cases h3
   refine x1_1 (zfl h1) fun t e1 => ?_
   refine x1_1 (zfl h2) fun u e2 => ?_
   exact ⟨t, u, by rw [e1, e2]⟩
theorem yif {α : Type} {R : α -> α -> Prop} {l : List α} (h : l.length < 2) : l.Pairwise R := by
 cases l with
 | nil => exact List.Pairwise.nil
 | cons x r =>
  cases r with
  | nil => exact zig _ _
  | cons y r => rw [zah, zah] at h; omega
section
variable {prog : Program} {w : World} {A : Around} {E : Value -> Shared -> Prop} {s : Shared}
theorem lt_pr {k l : List Int} {x y : Addr} {Q : Bool -> Shared -> Prop} (hk : isPr k = true) (hl : isPr l = true) (hx : IsTK prog w s.heap k x) (hy : IsTK prog w s.heap l y) (h : Q (ltK k l) s) : wpAny (model prog w) A (keyLt' (tuples' true) (.ref x) (.ref y)) Q E s := by
 match k, hk, l, hl, hx, hy, h with
 | [a, b], _, [c, d], _, hx, hy, h =>
  refine x3_4 hx fun ox ix n gx _ dx px => ?_; clear hx
  refine x3_4 hy fun oy iy m gy _ dy py => ?_; clear hy
  refine x2_1 (zuj px) fun t u ex => ?_
  refine x2_1 (zuj py) fun t' u' ey => ?_
  have sx : ix.size = 2 := by rw [<- zbb, ex]; rfl
  have sy : iy.size = 2 := by rw [<- zbb, ey]; rfl
  refine kat_lt gx dx gy dy ?_
  rw [ex, ey, sx, sy]
  refine kat_cons (zid ?_)
  by_cases e : a = c
  ·rw [show (a == c) = true by simpa using e]
   refine kat_yes (kat_cons (zid ?_))
   by_cases e2 : b = d
   ·rw [show (b == d) = true by simpa using e2]
    refine kat_yes (kat_nil ?_)
    have : ltK [a, b] [c, d] = decide (2 < 2) := by subst e; subst e2; simp [ltK]
    rw [this] at h
    exact h
   ·rw [show (b == d) = false by simpa using e2]
    refine kat_no (kat_one _ _ (lt_int ?_))
    have : ltK [a, b] [c, d] = decide (b < d) := by subst e; simp [ltK]
    rw [this] at h
    exact h
  ·rw [show (a == c) = false by simpa using e]
   refine kat_no ?_
   show wpAny _ _ (oneLt' true _ _) _ _ _
   refine oneLt_int ?_
   have : ltK [a, b] [c, d] = decide (a < c) := by simp [ltK, e]
   rw [this] at h
   exact h
theorem katT : ∀ (xs : List (List Int × Addr)), (∀ x ∈ xs, IsTK prog w s.heap x.1 x.2 /\ isPr x.1 = true) -> ∃ fs, KatTups s.heap (xs.map fun x => Value.ref x.2) fs /\ fs.length = xs.length /\ ∀ v ∈ fs, ∃ i t, v = .int i t
 | [], _ => ⟨[], trivial, rfl, fun v h => by cases h⟩
 | (k, a) :: xs, h => by
  refine x1_3 (katT xs fun x hx => h x (.tail _ hx)) fun fs h1 h2 h3 => ?_
  refine x0_2 (h (k, a) (.head _)) fun hk hp => ?_
  match k, hp, hk with
  | [c, d], _, hk =>
   refine x3_4 hk fun o its n g hc hd pi => ?_; clear hk
   refine x2_1 (zuj pi) fun t u e => ?_
   refine ⟨.int c t :: fs, KatTups.cons g hc hd ?_ h1, by simp [h2], fun v hv => ?_⟩
   ·have : its = #[.int c t, .int d u] := by apply zha.mp; rw [e]
    rw [this]; rfl
   ·rcases zan.mp hv with e | hv
    ·exact ⟨c, t, e⟩
    ·exact h3 v hv
theorem ymy {a : Addr} {xs : List (List Int × Addr)} {n : Nat} {P : PySem.Fin -> Shared -> Prop} (ho : s.heap.get? a = some (seqObj "list" (xs.map fun x => Value.ref x.2).toArray n)) (htk : ∀ x ∈ xs, IsTK prog w s.heap x.1 x.2 /\ isPr x.1 = true)
  (nd : (xs.map (·.1)).Nodup) (h64 : xs.length < 64)
  (h : ∀ h' (ys : List (List Int × Addr)) n', ys.Perm xs -> ys.Pairwise (fun x y => ltK x.1 y.1 = true) -> h'.get? a = some (seqObj "list" (ys.map fun x => Value.ref x.2).toArray n') -> (∀ b o, b ≠ a -> s.heap.get? b = some o -> h'.get? b = some o) -> P (.done (.ret .none)) { s with heap := h' }) :
  wpAny (model prog w) A (Builtin.«list.sort» ⟨[.ref a], []⟩) P E s := by
 generalize hvs : (xs.map fun x => Value.ref x.2) = vs at ho
 have hlen : vs.length = xs.length := by rw [<- hvs]; simp
 have ha : a < s.heap.objs.size := zam ho
 have s1 := zcr s.heap a (Obj.mapSeq fun _ => (#[] : Array Value))
 obtain ⟨e1, ho1⟩ : ∃ e1, (s.heap.update a (Obj.mapSeq fun _ => (#[] : Array Value))).get? a = some (seqObj "list" #[] e1) := ⟨_, get?_update_seq ho fun _ => #[]⟩
 generalize hH : ((s.heap.update a (Obj.mapSeq fun _ => (#[] : Array Value))).push (seqObj "tuple" vs.toArray 0)).push (seqObj "list" #[] 0) = H
 have ho6 : H.get? a = some (seqObj "list" #[] e1) := by rw [<- hH]; exact zaf _ (zaf _ ho1)
 have keep : ∀ b o, b ≠ a -> s.heap.get? b = some o -> H.get? b = some o := fun b o hb e => by
  rw [<- hH]; exact zaf _ (zaf _ ((s1.2 b hb).trans e))
 have hna : ∀ x ∈ xs, x.2 ≠ a := fun x hx e => by
  obtain ⟨⟨o, _, _, g, hc, _⟩, _⟩ := htk x hx
  rw [e, ho] at g
  cases g
  injection hc with e
  exact absurd e (by decide)
 have htk6 : ∀ x ∈ xs, IsTK prog w H x.1 x.2 /\ isPr x.1 = true := fun x hx => by
  obtain ⟨⟨o, its, m, g, r⟩, hp⟩ := htk x hx
  exact ⟨⟨o, its, m, keep _ _ (hna x hx) g, r⟩, hp⟩
 have fin : ∀ (s' : Shared) (ys : List (List Int × Addr)), s' = { s with heap := H } -> ys.Perm xs -> ys.Pairwise (fun x y => ltK x.1 y.1 = true) -> P (.done (.ret .none)) { s' with heap := s'.heap.update a (Obj.mapSeq fun _ => (ys.map fun x => Value.ref x.2).toArray) } := fun s' ys e hp hw => by
  subst e
  refine h _ ys _ hp hw (get?_update_seq ho6 fun _ => (ys.map fun x => Value.ref x.2).toArray) fun b o hb e => ?_
  exact ((zcr H a _).2 b hb).trans (keep b o hb e)
 rw [list_sort_plain]
 refine zac (listItems_at ho rfl ?_)
 refine zac (zhg ho rfl ?_ (by rw [zau, zdo]; omega) (zbr _))
 refine zac (seqEpoch_at ho1 rfl ?_)
 refine zac (wpAny_newTuple ?_ (by show vs.length <= _; rw [zdo]; omega))
 refine zac (wpAny_newList ?_ (zbr _))
 refine zby ?_
 show wpAny (model prog w) A _ P E { s with heap := ((s.heap.update a (Obj.mapSeq fun _ => (#[] : Array Value))).push (seqObj "tuple" vs.toArray 0)).push (seqObj "list" #[] 0) }
 rw [hH]
 dsimp only
 by_cases h2 : vs.toArray.size < 2
 ·rw [if_pos h2, if_pos h2]
  refine zac (zag ?_)
  rw [StateT.run_pure]
  refine zac (zag ?_)
  dsimp only
  refine zac (seqEpoch_at ho6 rfl ?_)
  refine zac (zhg ho6 rfl ?_ (zbr _) (by rw [Array.size_map]; show (pairsOf vs).size <= _; rw [pairsOf_size, zdo]; omega))
  simp only [bne_self_eq_false, zay, if_false]
  have e2 : (arrOf (SortSt.mk' general' (vs.toArray.zip vs.toArray) #[] 7 none)).map (·.2) = (xs.map fun x => Value.ref x.2).toArray := by
   rw [hvs]
   apply zha.mp
   refine zgx fun i => ?_
   show (((pairsOf vs).map (·.2)).toList)[i]? = _
   by_cases q : i < vs.length
   ·simp [pairsOf, q]
   ·simp [pairsOf, q]
  refine zag ?_
  have := fin { s with heap := H } xs rfl (zeg _) (yif (by
   rw [zau, hlen] at h2
   exact h2))
  rw [<- e2] at this
  exact this
 ·rw [if_neg h2, if_neg h2]
  rw [zau] at h2
  refine x1_3 (katT (s := { s with heap := H }) xs htk6) fun fs kt kl ki => ?_
  rw [hvs] at kt
  refine zac (kat_kind (T := .type "int") kt (by omega) (fun v hv => ?_) rfl ?_)
  ·refine x2_1 (ki v hv) fun i t qz2 => ?_; subst qz2
   exact Looks.of_pure rfl
  have est : SortSt.mk' (tuples' true) (vs.toArray.zip vs.toArray) #[] 7 none = kas_st (tuples' true) (pairsOf vs) (List.toArray (List.range vs.length)) := by
   have e := kas_range (pairsOf vs)
   rw [pairsOf_size] at e
   show SortSt.mk' (tuples' true) (pairsOf vs) #[] 7 none = SortSt.mk' (tuples' true) ((List.toArray (List.range vs.length)).map (kas_item (pairsOf vs))) #[] 7 none
   rw [e]
  let b : Nat -> Nat -> Bool := fun i j => ltK (xs.getD i ([], 0)).1 (xs.getD j ([], 0)).1
  have gx : ∀ i, i < xs.length -> xs.getD i ([], 0) ∈ xs := fun i hi => by
   rw [zaz, zae hi]
   exact zhe hi
  have gv : ∀ i, i < xs.length -> vs.getD i Value.none = .ref (xs.getD i ([], 0)).2 := fun i hi => by
   rw [<- hvs, zaz, zak, zaz, zae hi]
   rfl
  have O : Ord vs.length b := ⟨fun i j k => ylq _ _ _, fun i j hi hj ne => yel _ _ (htk _ (gx i (by omega))).2 (htk _ (gx j (by omega))).2 (fun e => ne (by
   have hi' : i < xs.length := by omega
   have hj' : j < xs.length := by omega
   rw [zaz, zae hi', zaz, zae hj'] at e
   have := (zft (h₀ := by simpa using hi') (h₁ := by simpa using hj') nd).mp (by simpa using e)
   exact this)), fun i j => zuq _ _⟩
  have ask : (kas_sort vs.length).kasWp (kas_cmp prog w A (tuples' true) (pairsOf vs)) (fun p s' => s' = { s with heap := H } /\ Arr vs.length p /\ Srt b p vs.length) { s with heap := H } := by
   refine ymz O (fun i j C hi hj hC => ?_) (by omega) fun q h1 h2 => ⟨rfl, h1, h2⟩
   unfold kas_cmp
   rw [kas_item_eq, kas_item_eq, gv i (by omega), gv j (by omega)]
   exact lt_pr (htk6 _ (gx i (by omega))).2 (htk6 _ (gx j (by omega))).2 (htk6 _ (gx i (by omega))).1 (htk6 _ (gx j (by omega))).1 hC
  have run := kas_runs (E := E) (Q := fun _ st' s' => ∃ p : Array Nat, p.size = vs.length /\ arrOf st' = p.map (kas_item (pairsOf vs)) /\ failedOf st' = none /\ s' = { s with heap := H } /\ Arr vs.length p /\ Srt b p vs.length)
   (by omega) (by omega) (fun p' st' s' a1 a2 a3 a4 => ⟨p', a1, a2, a3, a4⟩) ask
  rw [<- est] at run
  refine zac (zfd run ?_ fun _ _ e => e)
  rintro ⟨⟨⟩, st'⟩ s' ⟨p, hp, har, hf, rfl, hA, hS⟩
  dsimp only
  have hout : (arrOf st').map (·.2) = ((p.toList.map fun i => xs.getD i ([], 0)).map fun x => Value.ref x.2).toArray := by
   apply zha.mp
   rw [har, Array.map_map, Array.toList_map, zcn]
   refine zev fun i hi => ?_
   show (kas_item (pairsOf vs) i).2 = _
   rw [kas_item_eq]
   exact gv i (by have := zcl.mp (hA.mem_iff.mp hi); omega)
  rw [hout]
  refine zac (seqEpoch_at ho6 rfl ?_)
  refine zac (zhg ho6 rfl ?_ (zbr _) (by
   have : p.toList.length = vs.length := by rw [zbb, hp]
   simp only [zau, zad, this]
   rw [zdo]; omega))
  rw [hf]
  simp only [bne_self_eq_false, zay, if_false]
  refine zag (fin { s with heap := H } _ rfl ?_ ?_)
  ·have e0 : xs = (List.range xs.length).map fun i => xs.getD i ([], 0) := by
    refine List.ext_getElem (by simp) fun i h1 h2 => ?_
    simp [h1]
   have := hA.map fun i => xs.getD i ([], 0)
   rw [hlen, <- e0] at this
   exact this
  ·rw [zcv, zfh]
   intro i j hi hj hij
   have hi' : i < p.size := by simpa using hi
   have hj' : j < p.size := by simpa using hj
   have := hS i j hij (by omega)
   rw [gd hi', gd hj'] at this
   rw [zde, zde]
   exact this
end
end DL
namespace DL
open PySem PySem.W PyProof.Rows
theorem zwq {α β : Type} {f : α -> β} {l m : List β} (h : l.Perm m) : ∀ σ : List α, m = σ.map f -> ∃ xs : List α, xs.Perm σ /\ l = xs.map f := by
 induction h with
 | nil => intro σ e; exact ⟨σ, .refl _, e⟩
 | cons a _ ih =>
  intro σ e
  cases σ with
  | nil => cases e
  | cons x σ =>
   rw [zba] at e
   injection e with e1 e2
   refine x1_2 (ih σ e2) fun xs h1 h2 => ?_
   exact ⟨x :: xs, h1.cons x, by rw [h2, e1]; rfl⟩
 | swap a b l =>
  intro σ e
  cases σ with
  | nil => cases e
  | cons x σ =>
   cases σ with
   | nil => cases e
   | cons y σ =>
    rw [zba, zba] at e
    injection e with e1 e2
    injection e2 with e2 e3
    exact ⟨y :: x :: σ, .swap _ _ _, by rw [e1, e2, e3]; rfl⟩
 | trans _ _ ih1 ih2 =>
  intro σ e
  refine x1_2 (ih2 σ e) fun xs h1 h2 => ?_
  refine x1_2 (ih1 xs h2) fun ys h3 h4 => ?_
  exact ⟨ys, h3.trans h1, h4⟩
section
variable {prog : Program} {w : World} {A : Around} {E : Value -> Shared -> Prop} {s : Shared}
theorem ybb {S : Addr} {σ : List (List Int × Addr)} {Q : Value -> Shared -> Prop} (hh : A.handled = none) (hS : SetP prog w s.heap S (zpv w) σ) (hpr : ∀ x ∈ σ, isPr x.1 = true) (h64 : σ.length < 64)
  (h : ∀ h' tk D (ys : List (List Int × Addr)) n, ys.Perm σ -> ys.Pairwise (fun x y => ltK x.1 y.1 = true) -> h'.get? D = some (seqObj "list" (ys.map fun x => Value.ref x.2).toArray n) -> s.heap.objs.size <= D -> (∀ b o, s.heap.get? b = some o -> h'.get? b = some o) -> Q (.ref D) { s with heap := h', toks := tk }) :
  wpAny (model prog w) A (call (.builtin "sorted") [.ref S]) Q E s := by
 refine x4_10 hS fun o es ep t ho hx hd T pl ld fw pm nd tk => ?_; clear hS
 have X : SetAt w s.heap S es ep t := ⟨⟨o, ho, hx, hd⟩, T, pl, ld, fw⟩
 refine x1_2 (zwq ((zzn w S ep es).trans pm) σ rfl) fun xs hp he => ?_
 refine Calls.call_function_entry kind_sorted plain_sorted entry_sorted (args_sorted1 _) ?_
 unfold Builtin.«sorted»
 refine zac (m := checkCount "sorted" 1 1 _) (zag ?_)
 refine zac (zyr (by simp [hh]) X fun h' tk' hlt keep => ?_)
 have hvs : (zoh w S ep es).toList.map (·.2) = xs.map fun x => Value.ref x.2 := by
  rw [he, zcn]; rfl
 rw [hvs]
 refine zac (wpAny_newList ?_ (by rw [zad, hp.length_eq, zdo]; omega))
 have hoL : (h'.push (seqObj "list" (xs.map fun x => Value.ref x.2).toArray 0)).get? h'.objs.size = some (seqObj "list" (xs.map fun x => Value.ref x.2).toArray 0) := zbe _ rfl
 show wpAny _ _ _ _ _ { s with heap := h'.push (seqObj "list" (xs.map fun x => Value.ref x.2).toArray 0), toks := tk' }
 refine zac (zby (zey slot_list_sort ⟨_, hoL, rfl⟩ entry_list_sort ?body (args_list_sort _)))
 case body =>
  refine ymy (xs := xs) hoL (fun x hx => ?_) ((hp.map _).nodup_iff.mpr nd) (by rw [hp.length_eq]; exact h64) fun h2 ys n' hy hw hg kp => ⟨_, rfl, zag ⟨_, rfl, h h2 tk' _ ys n' (hy.trans hp) hw hg (zfg hlt) fun b o e => ?_⟩⟩
  ·have hx' := hp.mem_iff.mp hx
   refine x3_2 (tk x hx') fun o' its m g r => ?_
   exact ⟨⟨o', its, m, zaf _ (keep _ _ g), r⟩, hpr x hx'⟩
  ·exact kp b o (zbc (zam (keep _ _ e))) (zaf _ (keep _ _ e))
end
end DL
namespace DL
open PySem L2 PyProof.Rows
noncomputable def insK (k : List Int) : List (List Int) -> List (List Int)
 | [] => [k]
 | x :: l => if ltK k x = true then k :: x :: l else if k = x then x :: l else x :: insK k l
noncomputable def ssK : List (List Int) -> List (List Int)
 | [] => []
 | k :: l => insK k (ssK l)
noncomputable abbrev SrtK (l : List (List Int)) : Prop := l.Pairwise fun x y => ltK x y = true
theorem insK_mem {k x : List Int} : ∀ {l : List (List Int)}, x ∈ insK k l ↔ x = k ∨ x ∈ l
 | [] => by simp [insK]
 | y :: l => by
  unfold insK
  split
  ·simp
  ·split
   ·rename_i e; subst e; simp
   ·rw [zan, insK_mem, zan]
    constructor
    ·rintro (h | h | h)
     ·exact .inr (.inl h)
     ·exact .inl h
     ·exact .inr (.inr h)
    ·rintro (h | h | h)
     ·exact .inr (.inl h)
     ·exact .inl h
     ·exact .inr (.inr h)
theorem zzz {k : List Int} (hk : isPr k = true) : ∀ {l : List (List Int)}, (∀ x ∈ l, isPr x = true) -> SrtK l -> SrtK (insK k l)
 | [], _, _ => zig _ _
 | y :: l, hp, hs => by
  refine x0_2 (zcf.mp hs) fun h1 h2 => ?_
  unfold insK
  split
  ·rename_i e
   refine zcf.mpr ⟨fun x hx => ?_, hs⟩
   rcases zan.mp hx with q | q
   ·rw [q]; exact e
   ·exact ylq _ _ _ e (h1 x q)
  ·rename_i e
   split
   ·exact hs
   ·rename_i ne
    refine zcf.mpr ⟨fun x hx => ?_, zzz hk (fun x hx => hp x (.tail _ hx)) h2⟩
    rcases insK_mem.mp hx with q | q
    ·rw [q]
     exact (yel k y hk (hp y (.head _)) ne).resolve_left e
    ·exact h1 x q
theorem ssK_mem {x : List Int} : ∀ {l : List (List Int)}, x ∈ ssK l ↔ x ∈ l
 | [] => Iff.rfl
 | k :: l => by
  unfold ssK
  rw [insK_mem, ssK_mem, zan]
theorem zxx : ∀ {l : List (List Int)}, (∀ x ∈ l, isPr x = true) -> SrtK (ssK l)
 | [], _ => List.Pairwise.nil
 | k :: l, h => zzz (h k (.head _)) (fun x hx => h x (.tail _ (ssK_mem.mp hx))) (zxx fun x hx => h x (.tail _ hx))
theorem ylb : ∀ {l m : List (List Int)}, SrtK l -> SrtK m -> (∀ x, x ∈ l ↔ x ∈ m) -> l = m
 | [], [], _, _, _ => rfl
 | [], y :: m, _, _, h => by have := (h y).mpr (.head _); cases this
 | x :: l, [], _, _, h => by have := (h x).mp (.head _); cases this
 | x :: l, y :: m, hl, hm, h => by
  refine x0_2 (zcf.mp hl) fun a1 a2 => ?_
  refine x0_2 (zcf.mp hm) fun b1 b2 => ?_
  have e : x = y := by
   rcases zan.mp ((h x).mp (.head _)) with q | q
   ·exact q
   ·rcases zan.mp ((h y).mpr (.head _)) with q2 | q2
    ·exact q2.symm
    ·exact (zuq _ _ (b1 x q) (a1 y q2)).elim
  subst e
  rw [ylb a2 b2 fun z => ⟨fun hz => ?_, fun hz => ?_⟩]
  ·rcases zan.mp ((h z).mp (.tail _ hz)) with q | q
   ·subst q; exact (zuq _ _ (a1 z hz) (a1 z hz)).elim
   ·exact q
  ·rcases zan.mp ((h z).mpr (.tail _ hz)) with q | q
   ·subst q; exact (zuq _ _ (b1 z hz) (b1 z hz)).elim
   ·exact q
noncomputable def keyD : D -> Option (List Int)
 | .tup [.int a, .int b] => some [a, b]
 | _ => none
noncomputable def zut : List D -> Option (List (List Int))
 | [] => some []
 | d :: l => (keyD d).bind fun k => (zut l).map fun ks => k :: ks
noncomputable def dK (k : List Int) : D := .tup (k.map D.int)
theorem yes {d : D} {k : List Int} (h : keyD d = some k) : ∃ a b, d = .tup [.int a, .int b] /\ k = [a, b] := by
 unfold keyD at h
 split at h
 ·cases h; exact ⟨_, _, rfl, rfl⟩
 ·cases h
theorem ygv {σ : List (List Int × Addr)} {k : List Int} {b : Addr} {x : List Int} : x ∈ (addK σ k b).map (·.1) ↔ x = k ∨ x ∈ σ.map (·.1) := by
 unfold addK
 split
 ·rename_i h
  constructor
  ·exact .inr
  ·rintro (e | e)
   ·rw [e]; exact h
   ·exact e
 ·rw [zbw, zcc]
  constructor
  ·rintro (e | e)
   ·exact .inr e
   ·exact .inl (by simpa using e)
  ·rintro (e | e)
   ·exact .inr (by simpa using e)
   ·exact .inl e
theorem zyp {x : List Int} (xs : List (List Int × Addr)) : x ∈ (zmq xs).map (·.1) ↔ x ∈ xs.map (·.1) := by
 have : ∀ (ys σ : List (List Int × Addr)), x ∈ (ys.foldl (fun σ x => addK σ x.1 x.2) σ).map (·.1) ↔ x ∈ σ.map (·.1) ∨ x ∈ ys.map (·.1) := by
  intro ys
  induction ys with
  | nil => intro σ; simp
  | cons y ys ih =>
   intro σ
   rw [zhm, ih, ygv, zba, zan]
   constructor
   ·rintro ((h | h) | h)
    ·exact .inr (.inl h)
    ·exact .inl h
    ·exact .inr (.inr h)
   ·rintro (h | h | h)
    ·exact .inl (.inr h)
    ·exact .inl (.inl h)
    ·exact .inr h
 unfold zmq
 rw [this]
 simp
section
variable {X : Cx} {e : Expr} {es : List Expr} {ρ : Rho} {pos : Pos} {w : W}
theorem yaj {K : PySem.W.Frag} {F : Hp} : ∀ {l : List D} {xs : List V} {ks : List (List Int)}, DenL K F l xs -> zut l = some ks -> ∃ zs : List (List Int × Addr), xs = zs.map (fun z => V.ref z.2) /\ zs.map (·.1) = ks /\ ∀ z ∈ zs, SqT K F z.2 (z.1.map V.int) /\ isPr z.1 = true
 | [], _, _, h, e => by
  cases e
  exact ⟨[], h.inv_nil, rfl, fun z hz => by cases hz⟩
 | d :: l, _, _, h, e => by
  unfold zut at e
  refine x1_2 (zaa.mp e) fun k e1 e2 => ?_
  refine x1_2 (zab.mp e2) fun ks e3 e4 => ?_
  subst e4
  refine x2_2 (yes e1) fun a b ed ek => ?_
  refine x2_3 (h.inv_cons) fun v vs ev q r => ?_
  refine x1_3 (yaj r e3) fun zs h1 h2 h3 => ?_
  rw [ed] at q
  refine x2_3 (q.tup) fun t ys et sq qs => ?_
  refine x2_3 (qs.two) fun u1 u2 eu q1 q2 => ?_
  rw [eu, q1.int, q2.int] at sq
  refine ⟨(k, t) :: zs, by rw [ev, et, h1]; rfl, by rw [<- h2]; rfl, fun z hz => ?_⟩
  rcases zan.mp hz with e | hz
  ·subst e
   rw [ek]
   exact ⟨sq, rfl⟩
  ·exact h3 z hz
theorem zvo : ∀ {zs : List (List Int × Addr)} {us : List Value}, Vals (zs.map fun z => V.ref z.2) us -> us = zs.map fun z => Value.ref z.2
 | [], _, h => by cases h; rfl
 | z :: zs, _, h => by
  cases h with
  | cons h1 h2 => rw [show _ = Value.ref z.2 from h1, zvo h2]; rfl
theorem ycj : ∀ (zs : List (List Int × Addr)), Vals (zs.map fun z => V.ref z.2) (zs.map fun z => Value.ref z.2)
 | [] => .nil
 | z :: zs => .cons rfl (ycj zs)
theorem zyy {prog : Program} {w : World} : ∀ {k : List Int} {us : List Value}, Vals (k.map V.int) us -> ItemsAre (intKind prog w) k us
 | [], _, h => by cases h; exact .nil
 | i :: k, _, h => by
  cases h with
  | cons h1 h2 =>
   refine x1_1 h1 fun t e => ?_; clear h1
   subst e
   exact .cons (by show Value.isInt i (.int i t) = true; simp [Value.isInt]) (zyy h2)
theorem Inv.tk {pins σ H s} {z : List Int × Addr} (I : Inv X pins σ H s) (h : SqT X.K H z.2 (z.1.map V.int)) : IsTK X.prog X.w s.heap z.1 z.2 := by
 obtain ⟨its, r, ⟨o, ho, hc, n, hd⟩, _⟩ := I.tuple h
 exact ⟨o, its.toArray, n, ho, hc, hd, zyy r⟩
theorem yqh {pins s σ H} {a : Addr} {zs : List (List Int × Addr)} {Q : VK} (hX : X.calm = true) (hu : X.A.units + 16 < cLine) (I : Inv X pins σ H s) (hl : SqL X.K H a (zs.map fun z => V.ref z.2)) (hz : ∀ z ∈ zs, SqT X.K H z.2 (z.1.map V.int) /\ isPr z.1 = true) (hn : zs.length <= 63)
  (h : ∀ (ys : List (List Int × Addr)) p, (∀ y ∈ ys, y ∈ zs) -> ys.map (·.1) = ssK (zs.map (·.1)) -> H p = none -> Q (.ref p) (upd H p (.lst (ys.map fun z => V.ref z.2)))) :
  wpAny (model X.prog X.w) X.A (call (.type "set") [.ref a]) (fun m s1 => wpAny (model X.prog X.w) X.A (call (.builtin "sorted") [m]) (EP X pins σ Q) X.xe s1) X.xe s := by
 refine x1_3 (I.list hl) fun its r pl _ => ?_
 have e := zvo r
 subst e
 refine yfz (I.ok.hd hX) hu pl.isList (by simp) (fun x hx => Inv.tk I (hz x hx).1) (by omega) fun h' tk S keep => ?_
 have len : (zmq zs).length < 64 := by have := ztq zs; omega
 refine ybb (I.ok.hd hX) S (fun x hx => (hz x (zoc hx)).2) len fun h2 tk2 D ys n hp hw hg hD kp => ?_
 have mem : ∀ y ∈ ys, y ∈ zs := fun y hy => zoc (hp.mem_iff.mp hy)
 have keys : ys.map (·.1) = ssK (zs.map (·.1)) := by
  refine ylb (zcv.mpr hw) (zxx fun x hx => ?_) fun x => ?_
  ·refine x1_2 (zbd.mp hx) fun z q e => ?_
   rw [<- e]; exact (hz z q).2
  ·rw [ssK_mem]
   exact ((hp.map _).mem_iff).trans (zyp zs)
 have hle : s.heap.objs.size <= D := by
  have h1 : s.heap.objs.size < h'.objs.size := S.lt
  have h2 : h'.objs.size <= D := hD
  exact zcb (zfg h1) h2
 refine ⟨.ref D, _, I.laid (t' := tk2) (fun b u q => kp b u (keep b u q)) hle (show ObjOk X.prog X.w _ h2 D (.lst (ys.map fun z => V.ref z.2)) from ⟨?_, ys.map (fun z => Value.ref z.2), n, ycj ys, hg⟩), rfl, h ys D mem keys (I.hok.fresh hle)⟩
 rw [zad, hp.length_eq, zdo]
 omega
end
end DL
namespace DL
open PySem L2 PyProof.Rows
theorem ybj : typeLookup (.type "list_reverseiterator") "__len__" = pure none := by rw [zgl, zeu]; kernel_rfl
theorem yib : typeLookup (.type "list_reverseiterator") "__length_hint__" = pure (some (.builtin "list_reverseiterator.__length_hint__")) := by rw [zgl, zeu]; kernel_rfl
section
variable {prog : Program} {w : World} {A : Around} {E : Value -> Shared -> Prop} {s : Shared}
theorem yji {I l : Addr} {i : Int} {Q : Bool -> Shared -> Prop} (h : s.heap.IsRevIter I l i) (hQ : Q false s) : wpAny (model prog w) A (Builtin.List.listLengthHint (.ref I)) Q E s := by
 have hT := h.typeIs
 unfold Builtin.List.listLengthHint
 refine zac (zfk hT ybj ?_)
 show wpAny _ A (specialOf (Value.ref I) (Str.ofString "__length_hint__") >>= _) _ _ _
 refine zac (zfk hT yib ?_)
 generalize hid : ("list_reverseiterator.__length_hint__" : String) = id0
 wp_delta
 rw [show splitId id0 = some ("list_reverseiterator", "__length_hint__") from by subst hid; decide +kernel]
 subst hid
 refine zac (zib (b := true) hT (by rw [zgu]; kernel_rfl) ?_)
 exact zag hQ
theorem ybu {R : Result -> Shared -> Prop} {S I l : Addr} {items : Array Value} (res : Value) (c₀ : Nat) (hh : A.handled = none) (hz : items.size <= sizeLine) (hi : s.heap.IsRevIter I l ((items.size : Int) - 1)) (hl : s.heap.IsList l items) (hlI : l ≠ I) (hSI : S ≠ I) (hSl : S ≠ l) (hS : s.heap.get? S = some { cls := .type "list", data := .seq #[] c₀ })
  (hR : ∀ h' tk c', (∀ b o, b ≠ S -> b ≠ I -> s.heap.get? b = some o -> h'.get? b = some o) -> h'.get? S = some { cls := .type "list", dict := none, data := .seq items.reverse c', slots := #[] } -> R (.ok (.ret res)) { s with heap := h', toks := tk }) :
  wpAny (model prog w) A.in1 (Builtin.List.listExtendWith (.ref S) (.ref I) res)
   (fun fin s' => match fin with | .done f => R (.ok f) s' | .again c' => c'.quiet = true /\ codeAny (model prog w) A c' R s') (fun e s' => R (.error e) s') s := by
 unfold Builtin.List.listExtendWith
 refine zac (zhu hi.typeIs ?_)
 have h1 : Builtin.List.listSameRef (.ref S) (.ref I) = false := by simp [Builtin.List.listSameRef, hSI]
 rw [if_neg (by rw [h1]; decide)]
 refine zac (wpAny_pyIter_revIter hi ?_)
 refine zac (zby (yji hi ?_))
 show wpAny _ A.in1 (again (.builtin "list.extend.loop" ⟨[.ref S, .ref I, res], []⟩)) _ _ _
 have W := (Walks.listRev (prog := prog) (w := w) (A := A.in1) (by simp [hh]) I l hlI items).toS
 refine zag ⟨zgb zkf _, codeAny_extend_loopS W hz S (by simp [hSI, hSl]) res items.size 0 _ _ _ rfl (zbr _) ⟨zbr _, by simpa using hi, hl⟩ hS (ItemsOf.nil _) fun s' acc' c' hm hS' hacc => ?_⟩
 obtain ⟨h', g', d', tk', os'⟩ := s'
 have eg : g' = s.gens := hm.gens
 have ed : d' = s.drawn := hm.drawn
 have eo : os' = s.os := hm.os
 subst eg; subst ed; subst eo
 have ea : acc' = items.reverse := by
  refine Array.ext_getElem? fun j => ?_
  cases z : acc'[j]? with
  | none =>
   have h1 : acc'.size <= j := by simpa using z
   rw [hacc.1] at h1
   symm
   simpa using h1
  | some v =>
   have h1 : j < acc'.size := by
    refine x1_1 (zbt.mp z) fun q _ => ?_
    exact q
   rw [hacc.1] at h1
   have := hacc.2 j v z
   rw [Array.getElem?_reverse h1]
   exact this.symm
 subst ea
 exact hR h' tk' c' (fun b o h1 h2 e => hm.heap b o (by simp [h1, h2]) e) hS'
theorem zvd {I l : Addr} {items : Array Value} {Q : Value -> Shared -> Prop} (hh : A.handled = none) (hz : items.size <= sizeLine) (hi : s.heap.IsRevIter I l ((items.size : Int) - 1)) (hl : s.heap.IsList l items) (hlI : l ≠ I)
  (hQ : ∀ h' tk c', (∀ b o, b ≠ I -> s.heap.get? b = some o -> h'.get? b = some o) -> h'.get? s.heap.objs.size = some { cls := .type "list", dict := none, data := .seq items.reverse c', slots := #[] } -> Q (.ref s.heap.objs.size) { s with heap := h', toks := tk }) :
  wpAny (model prog w) A (call (.type "list") [.ref I]) Q E s := by
 have lI : I < s.heap.objs.size := by refine x1_2 hi fun o ho _ => ?_; clear hi; exact zam ho
 have ll : l < s.heap.objs.size := by refine x1_2 hl fun o ho _ => ?_; clear hl; exact zam ho
 refine callType_codes (Q₁ := fun obj s₁ => obj = .ref s.heap.objs.size /\ s₁ = { s with heap := s.heap.push { cls := .type "list", data := .seq #[] } }) F.called_list (F.typeCall_list_1 _) F.entry_list_init
  (code_list_new _ ⟨rfl, rfl⟩) fun obj s₁ h₁ => ?_
 refine x0_2 h₁ fun qz0 qz1 => ?_; clear h₁; subst qz0; subst qz1
 have hS : (s.heap.push { cls := .type "list", data := .seq #[] }).get? s.heap.objs.size = some { cls := .type "list", data := .seq #[] } := zbe _ rfl
 refine ⟨⟨_, hS, rfl⟩, F.args_list_init_2 _ _, ?_⟩
 show wpAny _ A.in1.in1 (do let old <- Builtin.List.listItems (.ref s.heap.objs.size); Builtin.List.listUpdate (.ref s.heap.objs.size) (fun _ => #[]); letGo old.toList.reverse; Builtin.List.listExtendWith (.ref s.heap.objs.size) (.ref I) .none) _ _ _
 refine zac (listItems_at hS rfl ?_)
 refine zac (zhg hS rfl ?_ (zbr _) (zbr _))
 have hS₂ := zco (Obj.mapSeq (fun _ => (#[] : Array Value))) hS rfl
 have oth : ∀ b o, b ≠ s.heap.objs.size -> s.heap.get? b = some o -> ((s.heap.push { cls := .type "list", data := .seq #[] }).update s.heap.objs.size (Obj.mapSeq (fun _ => (#[] : Array Value)))).get? b = some o :=
  fun b o hb e => (zdn _ _ (zda hb)).trans (zaf _ e)
 refine zac (wpAny_letGo ?_)
 refine ybu .none _ (by simp [hh]) hz (hi.at fun o e => oth I o (zbc lI) e) (hl.at fun o e => oth l o (zbc ll) e) hlI (zge lI) (zge ll) hS₂ fun h' tk c' kp e => ?_
 exact ⟨rfl, hQ h' tk c' (fun b o hb e => kp b o (zbc (zam e)) hb (oth b o (zbc (zam e)) e)) e⟩
end
section
variable {X : Cx} {e : Expr} {es : List Expr} {ρ : Rho} {pos : Pos} {w : W}
theorem yik {x y : Str} {p p2 q2 : Pos} {f g : String} {t : TA} {r : List V -> Hp -> VK -> Prop} (hc : ∀ pins s σ H vs us Q, Inv X pins σ H s -> Vals vs us -> r vs H Q -> wpAny (model X.prog X.w) X.A (call (.type g) us) (fun m s1 => wpAny (model X.prog X.w) X.A (call (.type f) [m]) (EP X pins σ Q) X.xe s1) X.xe s)
  (hg : Gl X x) (hm : X.mg x = none) (hv : bootBuiltins x = some (.type f)) (hn : x ≠ "__name__") (hdb : (x == ("__debug__" : Str)) = false) (hg2 : Gl X y) (hm2 : X.mg y = none) (hv2 : bootBuiltins y = some (.type g)) (hn2 : y ≠ "__name__") (hdb2 : (y == ("__debug__" : Str)) = false) (ha : PA X (e :: es) t) (hs : zki e = true) (hss : es.all zki = true) :
  PE X (.Call (.Name x p) [.Call (.Name y p2) (e :: es) [] q2] [] pos) (fun σ H Q => t σ H fun vs H1 => r vs H1 Q) := by
 intro pins s σ H Q I h
 refine zdf (zoz I hg hm hv ?_ hn hdb)
 refine zce ?_
 show wpAny _ _ (spliced ((false, eval (.Call (.Name y p2) (e :: es) [] q2) X.env) :: backTo pos (starEach [] X.env))) _ _ s
 refine zgn ?_
 refine zdf (zoz I hg2 hm2 hv2 ?_ hn2 hdb2)
 refine zce (thn (ha q2 pins s σ H _ I h) fun us s1 hz => x2_3 hz fun vs H1 I1 r1 q1 => ?_) (zkm hs) (zmn hss)
 exact thn (hc pins s1 σ H1 vs us Q I1 r1 q1) fun m s2 hm => zgt hm
theorem yil {x y : Str} {p p2 q2 : Pos} {f g : String} {t : TA} {r : List V -> Hp -> VK -> Prop} (hc : ∀ pins s σ H vs us Q, Inv X pins σ H s -> Vals vs us -> r vs H Q -> wpAny (model X.prog X.w) X.A (call (.type g) us) (fun m s1 => wpAny (model X.prog X.w) X.A (call (.builtin f) [m]) (EP X pins σ Q) X.xe s1) X.xe s)
  (hg : Gl X x) (hm : X.mg x = none) (hv : bootBuiltins x = some (.builtin f)) (hn : x ≠ "__name__") (hdb : (x == ("__debug__" : Str)) = false) (hg2 : Gl X y) (hm2 : X.mg y = none) (hv2 : bootBuiltins y = some (.type g)) (hn2 : y ≠ "__name__") (hdb2 : (y == ("__debug__" : Str)) = false) (ha : PA X (e :: es) t) (hs : zki e = true) (hss : es.all zki = true) :
  PE X (.Call (.Name x p) [.Call (.Name y p2) (e :: es) [] q2] [] pos) (fun σ H Q => t σ H fun vs H1 => r vs H1 Q) := by
 intro pins s σ H Q I h
 refine zdf (zoz I hg hm hv ?_ hn hdb)
 refine zgd ?_
 show wpAny _ _ (spliced ((false, eval (.Call (.Name y p2) (e :: es) [] q2) X.env) :: backTo pos (starEach [] X.env))) _ _ s
 refine zgn ?_
 refine zdf (zoz I hg2 hm2 hv2 ?_ hn2 hdb2)
 refine zce (thn (ha q2 pins s σ H _ I h) fun us s1 hz => x2_3 hz fun vs H1 I1 r1 q1 => ?_) (zkm hs) (zmn hss)
 exact thn (hc pins s1 σ H1 vs us Q I1 r1 q1) fun m s2 hm => zgt hm
noncomputable def yar (X : Cx) (f g : Value) (ds : List D) (w : W) : Prop := ∃ r : List V -> Hp -> VK -> Prop, (∀ pins s σ H vs us Q, Inv X pins σ H s -> Vals vs us -> r vs H Q -> wpAny (model X.prog X.w) X.A (call g us) (fun m s1 => wpAny (model X.prog X.w) X.A (call f [m]) (EP X pins σ Q) X.xe s1) X.xe s) /\
 ∀ (H0 Fc H F : Hp) (σ : L2.St) (ρ : Rho) (vs : List V) (Q : VK), ER X.K H0 Fc F H σ ρ -> DenL X.K F ds vs -> (∀ v' H' F', Same F F' -> ER X.K H0 Fc F' H' σ ρ -> RW X.K H0 F' H' w v' -> Q v' H') -> r vs H Q
theorem DE.nestT {x y : Str} {p p2 q2 : Pos} {f g : String} {ds : List D} (hc : yar X (.type f) (.type g) ds w) (hg : Gl X x) (hm : X.mg x = none) (hv : bootBuiltins x = some (.type f)) (hn : x ≠ "__name__") (hdb : (x == ("__debug__" : Str)) = false) (hg2 : Gl X y) (hm2 : X.mg y = none) (hv2 : bootBuiltins y = some (.type g)) (hn2 : y ≠ "__name__") (hdb2 : (y == ("__debug__" : Str)) = false)
  (ha : DA X (e :: es) ρ ds) (hs : zki e = true) (hss : es.all zki = true) : DE X (.Call (.Name x p) [.Call (.Name y p2) (e :: es) [] q2] [] pos) ρ w := fun H0 Fc => by
 refine x1_2 hc fun r hr hq => ?_; clear hc
 refine PE.mono (yik hr hg hm hv hn hdb hg2 hm2 hv2 hn2 hdb2 (ha H0 Fc) hs hss) fun σ H Q hz => x1_2 hz fun F R k => ⟨F, R, fun vs H1 F1 s1 R1 q1 => ?_⟩
 exact hq H0 Fc H1 F1 σ ρ vs Q R1 q1 fun v' H' F' s' R' q' => k v' H' F' (s1.trans s') R' q'
theorem DE.nestB {x y : Str} {p p2 q2 : Pos} {f g : String} {ds : List D} (hc : yar X (.builtin f) (.type g) ds w) (hg : Gl X x) (hm : X.mg x = none) (hv : bootBuiltins x = some (.builtin f)) (hn : x ≠ "__name__") (hdb : (x == ("__debug__" : Str)) = false) (hg2 : Gl X y) (hm2 : X.mg y = none) (hv2 : bootBuiltins y = some (.type g)) (hn2 : y ≠ "__name__") (hdb2 : (y == ("__debug__" : Str)) = false)
  (ha : DA X (e :: es) ρ ds) (hs : zki e = true) (hss : es.all zki = true) : DE X (.Call (.Name x p) [.Call (.Name y p2) (e :: es) [] q2] [] pos) ρ w := fun H0 Fc => by
 refine x1_2 hc fun r hr hq => ?_; clear hc
 refine PE.mono (yil hr hg hm hv hn hdb hg2 hm2 hv2 hn2 hdb2 (ha H0 Fc) hs hss) fun σ H Q hz => x1_2 hz fun F R k => ⟨F, R, fun vs H1 F1 s1 R1 q1 => ?_⟩
 exact hq H0 Fc H1 F1 σ ρ vs Q R1 q1 fun v' H' F' s' R' q' => k v' H' F' (s1.trans s') R' q'
theorem zyx : ∀ {xs : List V} {us : List Value}, Vals xs us -> Vals xs.reverse us.reverse
 | [], _, h => by cases h; exact .nil
 | x :: xs, _, h => by
  cases h with
  | cons h1 h2 =>
   rw [zbz, zbz]
   exact (zyx h2).append (.cons h1 .nil)
theorem DenL.rev {K : PySem.W.Frag} {F : Hp} : ∀ {l : List D} {xs : List V}, DenL K F l xs -> DenL K F l.reverse xs.reverse
 | [], _, h => by rw [h.inv_nil]; exact DenL.nil
 | d :: l, _, h => by
  refine x2_3 (h.inv_cons) fun v vs e q r => ?_
  subst e
  rw [zbz, zbz]
  exact (DenL.rev r).append (DenL.cons q DenL.nil)
theorem yir {l : List D} (hX : X.calm = true) : yar X (.type "list") (.type "reversed") [.lst l] (.new l.reverse) := by
 refine ⟨fun vs H Q => ∃ a xs, vs = [.ref a] /\ SqL X.K H a xs /\ ∀ p, H p = none -> Q (.ref p) (upd H p (.lst xs.reverse)), fun pins s σ H vs us Q I r h => ?_, fun H0 Fc H F σ ρ vs Q R q k => ?_⟩
 ·refine x2_3 h fun a xs qz2 hl hq => ?_; clear h; subst qz2
  refine x1_2 (yat r) fun u qz1 rx => ?_; subst qz1
  cases rx
  refine x1_3 (I.list hl) fun its r pl hz => ?_
  have hlen := r.length
  have hla : a < s.heap.objs.size := by refine x1_2 (pl.isList) fun o ho _ => ?_; exact zam ho
  refine call_reversed_list pl.isList ?_
  have hi : (s.heap.push (revObj a ((its.toArray.size : Int) - 1))).IsRevIter s.heap.objs.size a ((its.toArray.size : Int) - 1) := ⟨_, zbe _ rfl, rfl, rfl⟩
  refine zvd (I.ok.hd hX) (by simp only [zau]; omega) hi (pl.isList.push _) (zbc hla) fun h' tk c' kp e => ?_
  have hsz : (s.heap.push (revObj a ((its.toArray.size : Int) - 1))).objs.size = s.heap.objs.size + 1 := zia ..
  have hle : s.heap.objs.size <= (s.heap.push (revObj a ((its.toArray.size : Int) - 1))).objs.size := by rw [hsz]; exact Nat.le_succ _
  refine ⟨.ref _, _, I.laid (t' := tk) (fun b u q => kp b u (zbc (zam q)) (zaf _ q)) hle (show ObjOk X.prog X.w _ h' _ (.lst xs.reverse) from ⟨by rw [zbu]; exact hz, its.reverse, c', zyx r, ?_⟩), rfl, hq _ (I.hok.fresh hle)⟩
  have ee : its.toArray.reverse = its.reverse.toArray := by simp
  rw [<- ee]
  exact e
 ·refine x1_2 (q.one) fun v e q => ?_
  refine x2_3 (q.lst) fun p xs e1 sq r => ?_
  rw [e1] at e
  refine ⟨p, xs, e, R.sub.seq sq, fun p2 hp => ?_⟩
  refine x0_3 (R.put (.lst xs.reverse) hp) fun R4 hF h0 => ?_
  exact k _ _ _ (Same.refl _) R4 (RW.n hF h0 zko (DenL.rev r))
theorem yop {l : List D} {ks : List (List Int)} (hX : X.calm = true) (hu : X.A.units + 16 < cLine) (hk : zut l = some ks) (hn : ks.length <= 63) : yar X (.builtin "sorted") (.type "set") [.lst l] (.new ((ssK ks).map dK)) := by
 refine ⟨fun vs H Q => ∃ (a : Addr) (zs : List (List Int × Addr)), vs = [.ref a] /\ SqL X.K H a (zs.map fun z => V.ref z.2) /\ (∀ z ∈ zs, SqT X.K H z.2 (z.1.map V.int) /\ isPr z.1 = true) /\ zs.length <= 63 /\
   ∀ (ys : List (List Int × Addr)) p, (∀ y ∈ ys, y ∈ zs) -> ys.map (·.1) = ssK (zs.map (·.1)) -> H p = none -> Q (.ref p) (upd H p (.lst (ys.map fun z => V.ref z.2))), fun pins s σ H vs us Q I r h => ?_, fun H0 Fc H F σ ρ vs Q R q k => ?_⟩
 ·refine x2_5 h fun a zs qz2 q1 q2 q3 q4 => ?_; clear h; subst qz2
  refine x1_2 (yat r) fun u qz1 rx => ?_; subst qz1
  cases rx
  exact yqh hX hu I q1 q2 q3 q4
 ·refine x1_2 (q.one) fun v e q => ?_
  refine x2_3 (q.lst) fun a xs e1 sq r => ?_
  rw [e1] at e
  refine x1_3 (yaj r hk) fun zs h1 h2 h3 => ?_
  subst h1; subst h2
  refine ⟨a, zs, e, R.sub.seq sq, fun z hz => ⟨Same.tup R.sub (h3 z hz).1, (h3 z hz).2⟩, by simpa using hn, fun ys p mem keys hp => ?_⟩
  refine x0_3 (R.put (.lst (ys.map fun z => V.ref z.2)) hp) fun R4 hF h0 => ?_
  refine k _ _ _ (Same.refl _) R4 (RW.n hF h0 zko ?_)
  rw [<- keys, zcn]
  clear keys hp R4 hF h0 k
  induction ys with
  | nil => exact DenL.nil
  | cons y ys ih => exact DenL.cons (Den.tup_mk (h3 y (mem y (.head _))).1 (DenL.ints _)) (ih fun z hz => mem z (.tail _ hz))
end
end DL
namespace DL
open PySem L2 PyProof.Rows
section
variable {prog : Program} {w : World} {A : Around} {E : Value -> Shared -> Prop} {s : Shared}
end
end DL
namespace DL
open PySem L2 PyProof.Rows
section
variable {X : Cx} {pins : List (Addr × Obj)} {σ : L2.St} {H : Hp} {s : Shared} {h' : Heap}
end
section
variable {K : PySem.W.Frag} {H0 Fc F H : Hp} {σ : L2.St} {ρ : Rho}
end
section
variable {X : Cx}
end
end DL
namespace DL
open PySem L2 PyProof.Rows
section
variable {prog : Program} {w : World} {A : Around} {E : Value -> Shared -> Prop} {s : Shared}
theorem yma {it t : Addr} {items : Array Value} (hne : t ≠ it) : ∀ (n i : Nat) (s : Shared) (Q : List Value -> Shared -> Prop), s.heap.IsListIter it t i -> s.heap.IsList t items -> i + n <= items.size ->
  (∀ h', h'.IsListIter it t (i + n) -> Heap.SameBut it s.heap h' -> Q ((items.toList.drop i).take n) { s with heap := h' }) -> wpAny (model prog w) A (draw (.ref it) n) Q E s
 | 0, i, s, Q, hit, _, _, hQ => by
  show wpAny _ _ (pure []) Q E s
  exact zag (by simpa using hQ s.heap hit ⟨rfl, fun _ _ => rfl⟩)
 | n + 1, i, s, Q, hit, ht, hle, hQ => by
  have hlt : i < items.size := by omega
  show wpAny _ _ (pyNext (.ref it) >>= _) Q E s
  refine zac (zjl hit ht (x := items[i]) (by simp [hlt]) fun h₁ a₁ b₁ => ?_)
  refine zac (zby (yma hne n (i + 1) _ _ a₁ (ht.extBut b₁.extBut hne) (by omega) fun h₂ a₂ b₂ => zag ?_))
  have e0 : items.toList.drop i = items[i] :: items.toList.drop (i + 1) := by simp [zdd, hlt]
  have q := hQ h₂ (by rw [show i + (n + 1) = i + 1 + n by omega]; exact a₂) (b₁.trans b₂)
  rw [e0, List.take_succ_cons] at q
  exact q
theorem yhc {t : Addr} {items : Array Value} {Q : List Value -> Shared -> Prop} (hh : A.handled = none) (ht : s.heap.IsList t items)
  (hQ : ∀ h', Heap.ExtBut s.heap.objs.size s.heap h' -> Q items.toList { s with heap := h' }) : wpAny (model prog w) A (unpackItems (.ref t) items.size none) Q E s := by
 have hlt : t ≠ s.heap.objs.size := by refine x1_2 ht fun o ho _ => ?_; clear ht; exact zbc (zam ho)
 unfold unpackItems
 refine zac ?_
 ·unfold notIterableAtAll
  refine zac (zfk ht.typeIs slot_list_iter.lookup ?_)
  refine zag ?_
  simp only [zay, if_false]
  refine zac (zby (zho ht ?_))
  refine zac (zby (yma hlt items.size 0 _ _ ⟨_, zbe _ rfl, rfl, rfl⟩ (ht.push _) (by omega) fun h₁ a₁ b₁ => ?_))
  have al : List.take items.size (List.drop 0 items.toList) = items.toList := by
   rw [zhz]; exact zil (by simp)
  rw [al, if_neg (by simp)]
  have t₁ : h₁.IsList t items := (ht.push _).extBut b₁.extBut hlt
  refine zac (zby (zjv hh a₁ t₁ (by simp) fun h₂ e₂ => ?_))
  simp only [Option.isSome_none, zay, if_false]
  exact zag (hQ h₂ fun b o hb e => e₂ b o hb (b₁.extBut b o hb (zaf _ e)))
theorem ykr {env : Env} {elts : List Expr} {x1} {pos : Pos} {t : Addr} {items : Array Value} {Q : Unit -> Shared -> Prop} (hh : A.handled = none) (ht : s.heap.IsList t items)
  (hn : (assignEach elts env).length = items.size) (hst : (assignEach elts env).findIdx? (·.1) = none)
  (h : ∀ h', Heap.ExtBut s.heap.objs.size s.heap h' -> wpAny (model prog w) A (assignInOrder ((assignEach elts env).map (·.2)) items.toList) Q E { s with heap := h' }) :
  wpAny (model prog w) A (assign (.Tuple elts x1 pos) env (.ref t)) Q E s := by
 rw [PyProof.Rows.assign_Tuple]
 refine zac (zga ?_)
 unfold unpack
 rw [hn, hst]
 exact zac (zby (yhc hh ht h))
end
section
variable {X : Cx} {pos : Pos}
noncomputable def gLst (K : PySem.W.Frag) (n : Nat) (t : TGs) : TG := fun v σ H Q => ∃ a xs, v = .ref a /\ SqL K H a xs /\ xs.length = n /\ t xs σ H Q
theorem pg_lst {es : List Expr} {k : Nat} {t : TGs} {n : Nat} (hc : X.calm = true) (h : PGs X es t) (hn : (assignEach es X.env).length = n) (hst : (assignEach es X.env).findIdx? (·.1) = none) : PG X (.Tuple es k pos) (gLst X.K n t) := by
 intro pins s σ H v u Q I r hw
 obtain ⟨a, xs, e1, hq, hl, hw⟩ := hw
 subst e1
 cases r
 obtain ⟨its, rv, ht, hz⟩ := I.list hq
 refine ykr (I.ok.hd hc) ht.isList (by simp [hn, <- hl, rv.length]) hst fun h' hx => ?_
 have I1 : Inv X pins σ H { s with heap := h' } := I.kept (t' := s.toks) fun b o e => hx b o (zbc (zam e)) e
 exact h pins _ σ H xs _ Q I1 (by simpa using rv) hw
theorem DG.lst {ts : List Expr} {ds : List D} {ρ ρ' : RhoS} {k} (hc : X.calm = true) (h : DGs X ts ds ρ ρ') (hs : ts.all zki = true) (hl : ds.length = ts.length) : DG X (.Tuple ts k pos) (.lst ds) ρ ρ' := fun H0 Fc =>
 PG.mono (pg_lst (n := ts.length) hc (h H0 Fc) (zkv hs).1 (zkv hs).2) fun v σ H Q hz => x1_3 hz fun F S q k => by
  refine x2_3 (q.lst) fun a xs e sq r => ?_
  exact ⟨a, xs, e, S.sub.seq sq, by rw [r.length]; exact hl, F, S, r, k⟩
end
end DL
namespace DL
open PySem L2 PyProof.Rows
inductive Op where
 | add | sub | mul | fdiv | mod | pow
inductive Cm where
 | lt | le | gt | ge | eq | ne | isN | notN | isin | notin
inductive Ty where
 | int | bool | tuple | list
inductive Bi where
 | len | abs | min | max
inductive Fm where
 | ss | rev | lset | tupl | zip
inductive Tg where
 | name (i : Nat) | tup (l : List Nat)
mutual
inductive E where
 | var (i : Nat) | int (i : Int) | bl (b : Bool) | non
 | bin (o : Op) (a b : E) | neg (a : E) | cmp (c : Cm) (a b : E)
 | and (a b : E) | or (a b : E) | not (a : E) | ife (c a b : E)
 | tup (l : Es) | lst (l : Es) | ix (a b : E) | sl (a : E) (lo hi : EO)
 | callO (f : Nat) (a : E) (l : Es) | call (f : Nat) (l : Es) | bi (f : Bi) (l : Es) | isi (a : E) (t : Ty) | isx (a : E) (ys : List Str)
 | fm (f : Fm) (l : Es) | lcp (a : E) | comp (elt : E) (t : Tg) (it : It') (nt : Nat) (fr : List Nat) (c : EO)
inductive Es where
 | nil | cons (e : E) (l : Es)
inductive EO where
 | non | som (e : E)
inductive It' where
 | seq (e : E) | seqV (i : Nat) | range1 (a : E) | range2 (a b : E) | enum (e : E)
end
mutual
inductive S where
 | asg (i : Nat) (e : E) | unp (l : List Nat) (e : E) | par (i j : Nat) (a b : E)
 | ret (e : E) | retV (i : Nat) | iff (c : E) (a b : Ss) | whl (c : E) (b : Ss) | frr (t : Tg) (it : It') (b : Ss) | tryC (f g : Nat) (l : Es) (i j : Nat) | app (i : Nat) (e : E) | pop (i : Nat) | clr (i : Nat) | seti (i : Nat) (k e : E) | never
inductive Ss where
 | nil | cons (s : S) (l : Ss)
end
noncomputable def zkz (a b : Int) : Bool := decide (a.natAbs < 2 ^ 16000) && decide (b.natAbs < 2 ^ 16000)
noncomputable def zqo (b : Int) : Bool := decide (b ≠ 0) && decide (b.natAbs < 2 ^ 9000)
noncomputable def zuk (a b : Int) : Bool := decide (0 <= b) && decide (b <= 1000) && decide (a.natAbs < 2 ^ 64)
noncomputable def addW : D -> D -> Option W
 | .int a, .int b => some (.val (.int (a + b)))
 | .lst a, .lst b => if a.length + b.length <= sizeLine then some (.new (a ++ b)) else none
 | _, _ => none
noncomputable def arW (f : Int -> Int -> Option W) : D -> D -> Option W
 | .int a, .int b => f a b
 | _, _ => none
noncomputable def opW : Op -> D -> D -> Option W
 | .add, x, y => addW x y
 | .sub, x, y => arW (fun a b => some (.val (.int (a - b)))) x y
 | .mul, x, y => arW (fun a b => if zkz a b = true then some (.val (.int (a * b))) else none) x y
 | .fdiv, x, y => arW (fun a b => if zqo b = true then some (.val (.int (a.fdiv b))) else none) x y
 | .mod, x, y => arW (fun a b => if b = 0 then none else some (.val (.int (a.fmod b)))) x y
 | .pow, x, y => arW (fun a b => if zuk a b = true then some (.val (.int (a ^ b.toNat))) else none) x y
noncomputable def ordO (f : Int -> Int -> Bool) : D -> D -> Option Bool
 | .int a, .int b => some (f a b)
 | _, _ => none
noncomputable def eqO : D -> D -> Option Bool
 | .int a, .int b => some (decide (a = b))
 | .bl a, .bl b => some (a == b)
 | .tup a, .tup b => if (dOkL 49 a && dOkL 49 b) = true then some (eqL a b) else none
 | .lst a, .lst b => if (dOkL 49 a && dOkL 49 b) = true then some (eqL a b) else none
 | _, _ => none
noncomputable def inO (x : D) : D -> Option Bool
 | .lst l => if (dOk 50 x && dOkL 49 l) = true then some (l.any fun y => eqD y x) else none
 | _ => none
noncomputable def nonO (x : D) : D -> Option Bool
 | .non => some (zxb x)
 | _ => none
noncomputable def cmpD : Cm -> D -> D -> Option Bool
 | .lt, x, y => ordO (fun a b => decide (a < b)) x y
 | .le, x, y => ordO (fun a b => decide (a <= b)) x y
 | .gt, x, y => ordO (fun a b => decide (b < a)) x y
 | .ge, x, y => ordO (fun a b => decide (b <= a)) x y
 | .eq, x, y => eqO x y
 | .ne, x, y => (eqO x y).map not
 | .isin, x, y => inO x y
 | .notin, x, y => (inO x y).map not
 | .isN, x, y => nonO x y
 | .notN, x, y => (nonO x y).map not
noncomputable def isTy : Ty -> D -> Bool
 | .int, .int _ => true
 | .int, .bl _ => true
 | .bool, .bl _ => true
 | .tuple, .tup _ => true
 | .list, .lst _ => true
 | _, _ => false
noncomputable def ybo (t : Ty) : D -> Option Bool
 | .exc _ => none
 | d => some (isTy t d)
noncomputable def lenW : List D -> Option W
 | [.lst l] => some (.val (.int l.length))
 | [.tup l] => some (.val (.int l.length))
 | _ => none
noncomputable def absW : List D -> Option W
 | [.int i] => some (.val (.int (if i < 0 then -i else i)))
 | _ => none
noncomputable def minW : List D -> Option W
 | [.int i, .int j] => some (.val (.int (if j < i then j else i)))
 | _ => none
noncomputable def maxW : List D -> Option W
 | [.int i, .int j] => some (.val (.int (if i < j then j else i)))
 | _ => none
noncomputable def biW : Bi -> List D -> Option W
 | .len, ds => lenW ds
 | .abs, ds => absW ds
 | .min, ds => minW ds
 | .max, ds => maxW ds
noncomputable def ixD : D -> D -> Option D
 | .tup l, .int i => atI l i
 | .lst l, .int i => atI l i
 | _, _ => none
noncomputable def slD : D -> Option Int -> Option Int -> Option W
 | .lst l, i, j => some (.new (cutD l i j))
 | _, _, _ => none
noncomputable def znd : D -> Option Bool
 | .bl b => some b
 | _ => none
noncomputable def dInt : D -> Option Int
 | .int i => some i
 | _ => none
noncomputable def lcpW : D -> Option W
 | .lst l => some (.new l)
 | .tup l => some (.new l)
 | _ => none
noncomputable def ssW : List D -> Option W
 | [.lst l] => (zut l).bind fun ks => if ks.length <= 63 then some (.new ((ssK ks).map dK)) else none
 | _ => none
noncomputable def revW : List D -> Option W
 | [.lst l] => some (.new l.reverse)
 | _ => none
noncomputable def fmW : Fm -> List D -> Option W
 | .ss, ds => ssW ds
 | .rev, ds => revW ds
 | .lset, _ => none
 | .tupl, _ => none
 | .zip, _ => none
noncomputable def tgOk (n : Nat) : Tg -> Bool
 | .name i => decide (i < n)
 | .tup l => l.all fun i => decide (i < n)
noncomputable def setE (ρ : Rho) (i : Nat) (d : D) : Option Rho := if i < ρ.length then some (ρ.set i (some d)) else none
noncomputable def zmy : List Nat -> List D -> Rho -> Option Rho
 | [], [], ρ => some ρ
 | i :: is, d :: ds, ρ => (setE ρ i d).bind (zmy is ds)
 | _, _, _ => none
noncomputable def zmf : Tg -> D -> Rho -> Option Rho
 | .name i, d, ρ => setE ρ i d
 | .tup is, .tup ds, ρ => zmy is ds ρ
 | _, _, _ => none
noncomputable def yjv (l : List D) : List D := l.zipIdx.map fun p => D.tup [.int (p.2 : Int), p.1]
noncomputable def seqD : D -> Option (List D)
 | .lst l => some l
 | .tup l => some l
 | _ => none
noncomputable def lstD : D -> Option (List D)
 | .lst l => some l
 | _ => none
noncomputable def varD (ρ : Rho) (i : Nat) : Option D := match ρ[i]? with
 | some (some d) => some d
 | _ => none
noncomputable def ownW (φ : List D -> Option W) : W -> List D -> Option W
 | .new l, ds => (φ (.lst l :: ds)).bind fun w => match w with
  | .val d => some (.val d)
  | .new _ => none
 | .val _, _ => none
section
variable (Γ : Nat -> List D -> Option W)
mutual
noncomputable def ev : E -> Rho -> Option W
 | .var i, ρ => (varD ρ i).map W.val
 | .int i, _ => some (.val (.int i))
 | .bl b, _ => some (.val (.bl b))
 | .non, _ => some (.val .non)
 | .bin o a b, ρ => ((ev a ρ).map W.d).bind fun x => ((ev b ρ).map W.d).bind fun y => opW o x y
 | .neg a, ρ => (((ev a ρ).map W.d).bind dInt).map fun i => .val (.int (-i))
 | .cmp c a b, ρ => ((ev a ρ).map W.d).bind fun x => ((ev b ρ).map W.d).bind fun y => (cmpD c x y).map fun k => .val (.bl k)
 | .and a b, ρ => (((ev a ρ).map W.d).bind znd).bind fun k => if k = true then ev b ρ else some (.val (.bl false))
 | .or a b, ρ => (((ev a ρ).map W.d).bind znd).bind fun k => if k = true then some (.val (.bl true)) else ev b ρ
 | .not a, ρ => (((ev a ρ).map W.d).bind znd).map fun k => .val (.bl (!k))
 | .ife c a b, ρ => (((ev c ρ).map W.d).bind znd).bind fun k => if k = true then ev a ρ else ev b ρ
 | .tup l, ρ => (evs l ρ).bind fun ds => if ds.length <= sizeLine then some (.val (.tup ds)) else none
 | .lst l, ρ => (evs l ρ).bind fun ds => if ds.length <= sizeLine then some (.new ds) else none
 | .ix a b, ρ => ((ev a ρ).map W.d).bind fun x => ((ev b ρ).map W.d).bind fun y => (ixD x y).map W.val
 | .sl a lo hi, ρ => ((ev a ρ).map W.d).bind fun x => (evo lo ρ).bind fun i => (evo hi ρ).bind fun j => slD x i j
 | .call f l, ρ => (evs l ρ).bind fun ds => Γ f ds
 | .callO f a l, ρ => (ev a ρ).bind fun w => (evs l ρ).bind fun ds => ownW (Γ f) w ds
 | .bi f l, ρ => (evs l ρ).bind fun ds => biW f ds
 | .isi a t, ρ => ((ev a ρ).map W.d).bind fun d => (ybo t d).map fun k => .val (.bl k)
 | .isx a ys, ρ => ((ev a ρ).map W.d).bind fun d => (isX ys d).map fun k => .val (.bl k)
 | .fm f l, ρ => (evs l ρ).bind fun ds => fmW f ds
 | .lcp a, ρ => ((ev a ρ).map W.d).bind lcpW
 | .comp elt t it nt fr c, ρ => (evW it ρ).bind fun items => if items.length <= sizeLine /\ tgOk nt t = true then
   (znp (fun d => (zmf t d (blkR nt fr ρ)).bind fun ρd => (evc c ρd).bind fun k => if k = true then ((ev elt ρd).map W.d).map some else some none) items).map W.new else none
noncomputable def evs : Es -> Rho -> Option (List D)
 | .nil, _ => some []
 | .cons e l, ρ => ((ev e ρ).map W.d).bind fun d => (evs l ρ).map fun ds => d :: ds
noncomputable def evo : EO -> Rho -> Option (Option Int)
 | .non, _ => some none
 | .som e, ρ => (((ev e ρ).map W.d).bind dInt).map some
noncomputable def evc : EO -> Rho -> Option Bool
 | .non, _ => some true
 | .som e, ρ => ((ev e ρ).map W.d).bind znd
noncomputable def evW : It' -> Rho -> Option (List D)
 | .seq e, ρ => ((ev e ρ).map W.d).bind seqD
 | .seqV i, ρ => (varD ρ i).bind seqD
 | .range1 a, ρ => (((ev a ρ).map W.d).bind dInt).bind fun n => if -(2 ^ 62) <= n /\ n < 2 ^ 62 then some (zld 0 n.toNat) else none
 | .range2 a b, ρ => (((ev a ρ).map W.d).bind dInt).bind fun m => (((ev b ρ).map W.d).bind dInt).bind fun n =>
   if -(2 ^ 62) <= m /\ m < 2 ^ 62 /\ -(2 ^ 62) <= n /\ n < 2 ^ 62 then some (zld m (n - m).toNat) else none
 | .enum e, ρ => (((ev e ρ).map W.d).bind lstD).map yjv
end
noncomputable def evB (e : E) (ρ : RhoS) : Option Bool := ((ev Γ e (view ρ)).map W.d).bind znd
noncomputable def setR (ρ : RhoS) (i : Nat) (b : B) : Option RhoS := if i < ρ.length then some (ρ.set i (some b)) else none
noncomputable def zop : List Nat -> List D -> RhoS -> Option RhoS
 | [], [], ρ => some ρ
 | i :: is, d :: ds, ρ => (setR ρ i (.sh d)).bind (zop is ds)
 | _, _, _ => none
noncomputable def zle : Tg -> D -> RhoS -> Option RhoS
 | .name i, d, ρ => setR ρ i (.sh d)
 | .tup is, .tup ds, ρ => zop is ds ρ
 | _, _, _ => none
noncomputable def seqB (ρ : RhoS) : Option (Option B) -> Option (List D × RhoS)
 | some (some (.sh (.lst l))) => some (l, ρ)
 | some (some (.sh (.tup l))) => some (l, ρ)
 | some (some (.ow l)) => some (l, frz ρ)
 | _ => none
noncomputable def evI : It' -> RhoS -> Option (List D × RhoS)
 | .seqV i, ρ => seqB ρ ρ[i]?
 | .seq e, ρ => (ev Γ e (view ρ)).bind fun w => match w.d with
  | .lst l => some (l, after w ρ)
  | .tup l => some (l, after w ρ)
  | _ => none
 | .range1 a, ρ => (((ev Γ a (view ρ)).map W.d).bind dInt).bind fun n => if -(2 ^ 62) <= n /\ n < 2 ^ 62 then some (zld 0 n.toNat, ρ) else none
 | .range2 a b, ρ => (((ev Γ a (view ρ)).map W.d).bind dInt).bind fun m => (((ev Γ b (view ρ)).map W.d).bind dInt).bind fun n =>
   if -(2 ^ 62) <= m /\ m < 2 ^ 62 /\ -(2 ^ 62) <= n /\ n < 2 ^ 62 then some (zld m (n - m).toNat, ρ) else none
 | .enum e, ρ => (ev Γ e (view ρ)).bind fun w => match w.d with
  | .lst l => some (yjv l, frz ρ)
  | _ => none
open Classical in
noncomputable def zti (c : RhoS -> Option Bool) (b : RhoS -> Option Out) (ρ : RhoS) : Option Out :=
 if h : ∃ n o, zky c b n ρ = some o then zky c b h.choose ρ else none
theorem zol {c : RhoS -> Option Bool} {b : RhoS -> Option Out} : ∀ {n m : Nat} {ρ : RhoS} {o : Out}, zky c b n ρ = some o -> n <= m -> zky c b m ρ = some o
 | 0, _, _, _, h, _ => by cases h
 | n + 1, 0, _, _, _, h => by omega
 | n + 1, m + 1, ρ, o, h, hm => by
  unfold zky at h ⊢
  cases e : c ρ with
  | none => rw [e] at h; cases h
  | some k =>
   simp only [e] at h ⊢
   cases k with
   | false => exact h
   | true =>
    cases e2 : b ρ with
    | none => simp only [e2] at h; cases h
    | some o2 =>
     simp only [e2] at h ⊢
     cases o2 with
     | rt w => exact h
     | nx ρ' => exact zol h (by omega)
theorem zoq {c : RhoS -> Option Bool} {b : RhoS -> Option Out} {n : Nat} {ρ : RhoS} {o : Out} (h : zky c b n ρ = some o) : zti c b ρ = some o := by
 have hx : ∃ n o, zky c b n ρ = some o := ⟨n, o, h⟩
 unfold zti
 rw [dif_pos hx]
 refine x1_1 (hx.choose_spec) fun o' h' => ?_
 rw [h']
 have a := zol h (Nat.le_max_left n hx.choose)
 have b := zol h' (Nat.le_max_right n hx.choose)
 rw [a] at b
 exact b.symm
theorem zth {c : RhoS -> Option Bool} {b : RhoS -> Option Out} {ρ : RhoS} {o : Out} (h : zti c b ρ = some o) : ∃ n, zky c b n ρ = some o := by
 unfold zti at h
 by_cases hx : ∃ n o, zky c b n ρ = some o
 ·rw [dif_pos hx] at h; exact ⟨_, h⟩
 ·rw [dif_neg hx] at h; cases h
mutual
noncomputable def ex : S -> RhoS -> Option Out
 | .asg i e, ρ => (ev Γ e (view ρ)).bind fun w => (setR (after w ρ) i w.b).map Out.nx
 | .unp is e, ρ => (ev Γ e (view ρ)).bind fun w => (zle (.tup is) w.d (after w ρ)).map Out.nx
 | .par i j a b, ρ => ((ev Γ a (view ρ)).map W.d).bind fun x => ((ev Γ b (view ρ)).map W.d).bind fun y =>
   if lf x = true /\ lf y = true /\ i ≠ j /\ i < ρ.length /\ j < ρ.length then some (.nx ((ρ.set i (some (.sh x))).set j (some (.sh y)))) else none
 | .ret e, ρ => (ev Γ e (view ρ)).map Out.rt
 | .retV i, ρ => match ρ[i]? with
  | some (some (.ow l)) => some (.rt (.new l))
  | some (some (.sh d)) => some (.rt (.val d))
  | _ => none
 | .iff c a b, ρ => (evB Γ c ρ).bind fun k => if k = true then exs a ρ else exs b ρ
 | .whl c b, ρ => zti (evB Γ c) (exs b) ρ
 | .frr t it b, ρ => (evI Γ it ρ).bind fun p => forN (zle t) (exs b) p.1 p.2
 | .tryC f g l i j, ρ => (evs Γ l (view ρ)).bind fun ds => match Γ g ds with
  | some (.val (.exc z)) => if z ∈ zrg /\ i ≠ j /\ i < ρ.length then some (.nx (((frz ρ).set j none).set i (some (.sh (.exc z))))) else none
  | _ => (Γ f ds).map fun _ => .nx (frz ρ)
 | .app i e, ρ => (ev Γ e (view ρ)).bind fun w => match ρ[i]?, w with
  | some (some (.ow l)), .val d => if lf d = true /\ l.length < sizeLine then some (.nx (ρ.set i (some (.ow (l ++ [d]))))) else none
  | _, _ => none
 | .pop i, ρ => match ρ[i]? with
  | some (some (.ow l)) => if l = [] then none else some (.nx (ρ.set i (some (.ow l.dropLast))))
  | _ => none
 | .clr i, ρ => match ρ[i]? with
  | some (some (.ow _)) => some (.nx (ρ.set i (some (.ow []))))
  | _ => none
 | .seti i k e, ρ => (ev Γ e (view ρ)).bind fun w => (((ev Γ k (view ρ)).map W.d).bind dInt).bind fun j => match ρ[i]?, w with
  | some (some (.ow l)), .val d => if lf d = true then (ixN l.length j).map fun n => .nx (ρ.set i (some (.ow (l.set n d)))) else none
  | _, _ => none
 | .never, _ => none
noncomputable def exs : Ss -> RhoS -> Option Out
 | .nil, ρ => some (.nx ρ)
 | .cons s l, ρ => (ex s ρ).bind fun o => match o with
  | .nx ρ' => exs l ρ'
  | .rt w => some (.rt w)
end
noncomputable def run (b : Ss) (n : Nat) (ds : List D) : Option W := (exs Γ b (ds.map (fun d => some (.sh d)) ++ List.replicate (n - ds.length) none)).bind fun o => match o with
 | .rt w => some w
 | .nx _ => some (.val .non)
end
end DL
namespace DL
open PySem L2 PyProof.Rows
section
variable {X : Cx} {e a b c : Expr} {es : List Expr} {ρ : RhoS} {pos : Pos}
noncomputable def Ty.nm : Ty -> String
 | .int => "int" | .bool => "bool" | .tuple => "tuple" | .list => "list"
noncomputable def tyTy : Ty -> Ty -> Bool
 | .int, .int => true
 | .int, .bool => true
 | .bool, .bool => true
 | .tuple, .tuple => true
 | .list, .list => true
 | _, _ => false
theorem zus (K : PySem.W.Frag) : ∀ (t : Ty) (u : Ty), PySem.W.kitOne K (.type u.nm) (.type t.nm) = some (tyTy t u) := by
 intro t u
 cases t <;> cases u <;> kernel_rfl
theorem yoz (K : PySem.W.Frag) : ∀ (t : Ty), PySem.W.kitOne K (.type "NoneType") (.type t.nm) = some false := by
 intro t
 cases t <;> kernel_rfl
theorem isi_ok {pins : List (Addr × Obj)} {σ : L2.St} {F H : Hp} {s : Shared} {A : Around} {E : Value -> Shared -> Prop} {Q : Value -> Shared -> Prop} {d : D} {v : V} {u : Value} {t : Ty} (I : Inv X pins σ H s) (sF : Same F H) (h : Den X.K F d v) (r : RelV v u) (hd : ybo t d = some (isTy t d))
  (q : ∀ tk, Q (.bool (isTy t d)) { s with toks := tk }) : wpAny (model X.prog X.w) A (call (.builtin "isinstance") [u, .type t.nm]) Q E s := by
 cases d with
 | non =>
  rw [h.non] at r
  cases (show u = Value.none from r)
  exact zet PySem.W.kitx_none I.kIn True.intro (by rw [yoz X.K t]) (fun z => nomatch z) (by cases t <;> exact q)
 | bl b =>
  rw [h.bl] at r
  cases (show u = Value.bool b from r)
  exact zet PySem.W.kitx_bool I.kIn True.intro (zus X.K t .bool) (fun z => nomatch z) (by cases t <;> exact q)
 | int i =>
  rw [h.int] at r
  refine x1_1 ((show ∃ t, u = Value.int i t from r)) fun t' e => ?_
  cases e
  exact zet PySem.W.kitx_int I.kIn True.intro (zus X.K t .int) (fun z => nomatch z) (by cases t <;> exact q)
 | tup l =>
  refine x2_3 (h.tup) fun a xs e sq _ => ?_
  rw [e] at r
  cases (show u = Value.ref a from r)
  obtain ⟨its, _, ⟨o, h1, h2, _⟩, _⟩ := I.tuple (Same.tup sF sq)
  exact zet PySem.W.kitx_tuple I.kIn ⟨o, h1, h2⟩ (zus X.K t .tuple) (fun z => nomatch z) (by cases t <;> exact q)
 | lst l =>
  refine x2_3 (h.lst) fun a xs e sq _ => ?_
  rw [e] at r
  cases (show u = Value.ref a from r)
  obtain ⟨its, _, ⟨o, n, h1, h2, _⟩, _⟩ := I.list (sF.seq sq)
  exact zet PySem.W.kitx_list I.kIn ⟨o, h1, h2⟩ (zus X.K t .list) (fun z => nomatch z) (by cases t <;> exact q)
 | exc x => cases hd
theorem zsm : bootBuiltins "isinstance" = some (.builtin "isinstance") := by decide +kernel
theorem yqk (t : Ty) : bootBuiltins (Str.ofString t.nm) = some (.type t.nm) := by cases t <;> decide +kernel
theorem ykd (t : Ty) (d : D) (hd : ybo t d = some (isTy t d)) : zvm X (.builtin "isinstance") (fun vs H Q => ∃ F v, vs = [v, .ty t.nm] /\ Same F H /\ Den X.K F d v /\ Q (.bl (isTy t d)) H) := by
 intro pins s σ H xs us Q I r ⟨F, v, e, sF, h, q⟩
 subst e
 refine x2_3 (ymk r) fun u u' e r1 r2 => ?_
 subst e
 cases (show u' = Value.type t.nm from r2)
 exact isi_ok I sF h r1 hd fun tk => ⟨.bl _, H, I.tok tk, rfl, q⟩
theorem DE.isi {t : Ty} {d : D} {x : Str} {p p2 : Pos} {ρ : Rho} (hd : ybo t d = some (isTy t d)) (ha : DF X a ρ d) (hs : zki a = true) (hg : Gl X "isinstance") (hm : X.mg "isinstance" = none) (hx : x = Str.ofString t.nm) (hgt : Gl X x) (hmt : X.mg x = none) :
  DE X (.Call (.Name "isinstance" p) [a, .Name x p2] [] pos) ρ (.val (.bl (isTy t d))) := fun H0 Fc => by
 subst hx
 have pt : PE X (.Name (Str.ofString t.nm) p2) (tC (.ty t.nm)) := yny hgt hmt (yqk t) rfl (by cases t <;> decide) (by cases t <;> decide)
 refine PE.mono (zzm (ykd t d hd) hg hm zsm (zry (ha H0 Fc) (zry pt yea) (zkm hs)) (by decide) (by decide) (zkm hs) rfl) fun σ H Q hz => x1_2 hz fun F R k => ?_
 exact ⟨F, R, fun v H1 F1 s1 R1 q1 => ⟨F1, v, rfl, R1.sub, q1, k _ H1 F1 s1 R1 RW.bl⟩⟩
end
end DL
namespace DL
open PySem L2 PyProof.Rows
noncomputable def del (H : Hp) (a : Addr) : Hp := fun b => if b = a then none else H b
theorem yjx (H : Hp) (a : Addr) : Same (del H a) H := fun b o e => by
 unfold del at e
 split at e
 ·cases e
 ·exact e
theorem del_at (H : Hp) (a : Addr) : del H a a = none := if_pos rfl
theorem del_ne {H : Hp} {a b : Addr} (h : b ≠ a) : del H a b = H b := if_neg h
noncomputable def spO (K : PySem.W.Frag) (n : Nat) (φ : List D -> Option W) : Sp := fun vs H Q _ => ∃ F a xs us l ds w, vs = .ref a :: us /\ Same F H /\ F a = none /\ H a = some (.lst xs) /\ DenL K F l xs /\ DenL K F ds us /\ ds.length + 1 = n /\ φ (.lst l :: ds) = some w /\
 ∀ v H' F', Same (del H a) H' -> Same F F' -> Same F' H' -> (∀ b o, F' b = some o -> F b = some o ∨ del H a b = none) -> RW K (del H a) F' H' w v -> Q v H'
noncomputable def ygz (X : Cx) (x : Str) (n : Nat) (φ : List D -> Option W) : Prop := ∃ (k : Nat) (f : Addr) (fd : FuncData) (ps : List Str),
 FnOk X.prog X.w X.K X.mg X.base CX0 k f fd ps (spO X.K n φ) /\ Room k X.A /\ X.mg x = some (.ref f) /\ PySem.W.keepIn X.K (.ref f) = true /\ Binds X.K fd ps []
theorem DE.callO {X : Cx} {e : Expr} {es : List Expr} {ρ : Rho} {pos : Pos} {x : Str} {p : Pos} {n : Nat} {φ : List D -> Option W} {l ds : List D} {d : D} (hc : ygz X x n φ) (hg : Gl X x) (hdb : (x == ("__debug__" : Str)) = false) (he : DE X e ρ (.new l)) (ha : DA X es ρ ds) (hn : ds.length + 1 = n) (hw : φ (.lst l :: ds) = some (.val d)) (hs : zki e = true) (hss : es.all zki = true) :
  DE X (.Call (.Name x p) (e :: es) [] pos) ρ (.val d) := fun H0 Fc => by
 refine x4_5 hc fun k f fd ps G hr hm hk hb => ?_; clear hc
 have ha' : PA X es (fun σ H Q => ∃ H1 F1, ∃ F, ER X.K H1 F1 F H σ ρ /\ ∀ vs H' F', Same F F' -> ER X.K H1 F1 F' H' σ ρ -> DenL X.K F' ds vs -> Q vs H') := fun pos pins s σ H Q I hz => x2_1 hz fun H1 F1 h => ha H1 F1 pos pins s σ H Q I h
 refine PE.mono (ydz (E := E0) G hr hg hm hk hb .nil pass0 (zry (he H0 Fc) ha' (zkm hs)) hdb (zkm hs) (zmn hss)) fun σ H Q hz => x1_2 hz fun F R k => ⟨F, R, fun v H1 F1 s1 R1 q1 => ?_⟩
 refine x2_5 q1 fun a xs e1 b1 b2 b3 b4 => ?_; clear q1
 subst e1
 refine ⟨H1, F1, F1, ⟨R1.sub, Same.refl _, Same.refl _, fun _ _ e => .inl e, R1.env⟩, fun vs H2 F2 s2 R2 q2 => ?_⟩
 have c1 : F2 a = none := by
  cases q : F2 a with
  | none => rfl
  | some o =>
   rcases R2.new a o q with z | z
   ·rw [b1] at z; cases z
   ·rw [b3] at z; cases z
 refine ⟨F2, a, xs, vs, l, ds, .val d, by rw [zdi], R2.sub, c1, R2.same a _ b3, b4.mono s2, q2, hn, hw, fun v' H' F' a1 a2 a3 a4 a5 => k v' H' F' (s1.trans (s2.trans a2)) ?_ a5⟩
 have up : ∀ b o, H0 b = some o -> del H2 a b = some o := fun b o e => by
  rw [del_ne (fun z => by subst z; rw [b2] at e; cases e)]
  exact R2.same b o (R1.same b o e)
 refine ⟨a3, fun b o e => a1 b o (up b o e), R1.base.trans (s2.trans a2), fun b o e => ?_, fun i d e => ?_⟩
 ·rcases a4 b o e with z | z
  ·rcases R2.new b o z with z | z
   ·exact R1.new b o z
   ·exact .inr (R1.same.free z)
  ·refine .inr ?_
   cases q : H0 b with
   | none => rfl
   | some u => rw [up b u q] at z; cases z
 ·refine x1_2 (R1.env i d e) fun v h1 h2 => ?_
  exact ⟨v, h1, h2.mono (s2.trans a2)⟩
end DL
namespace DL
open PySem L2 PyProof.Rows
section
variable {X : Cx} {e a b c t tg : Expr} {es ts : List Expr} {ρ ρ' ρ2 : Rho} {pos : Pos} {d : D} {ds : List D} {w : W}
theorem yas {K : PySem.W.Frag} {F : Hp} {a : Addr} {xs : List V} {l : List D} (sq : SqL K F a xs) (r : DenL K F l xs) : Walks K F (Itl K a) l := fun i H' sH => ⟨fun d hd => by
 refine x1_2 (r.get hd) fun y h1 h2 => ?_
 refine ⟨⟨xs, y, sH.seq sq, h1⟩, fun x H'' hz => x0_2 hz fun ey yy => ?_⟩
 have := yy xs (sH.seq sq)
 rw [h1] at this
 cases this
 exact .inl ⟨ey, h2⟩, fun hle => ⟨xs, sH.seq sq, by rw [r.length]; exact hle⟩⟩
theorem ycf {K : PySem.W.Frag} {F : Hp} {a : Addr} {xs : List V} {l : List D} (sq : SqT K F a xs) (r : DenL K F l xs) : Walks K F (Itt K a) l := fun i H' sH => ⟨fun d hd => by
 refine x1_2 (r.get hd) fun y h1 h2 => ?_
 refine ⟨⟨xs, y, Same.tup sH sq, h1⟩, fun x H'' hz => x0_2 hz fun ey yy => ?_⟩
 have := yy xs (Same.tup sH sq)
 rw [h1] at this
 cases this
 exact .inl ⟨ey, h2⟩, fun hle => ⟨xs, Same.tup sH sq, by rw [r.length]; exact hle⟩⟩
theorem DIe.list {l : List D} (he : DF X e ρ (.lst l)) : DIe X tg e ρ l := fun H0 Fc => PI.mono (zya (he H0 Fc)) fun σ H R hz => x1_2 hz fun F Re k => ⟨F, Re, fun v H2 F2 s2 R2 q => by
 refine x2_3 (q.lst) fun a xs e1 sq r => ?_
 exact ⟨a, e1, ⟨xs, R2.sub.seq sq⟩, k _ H2 F2 s2 R2 (yas sq r)⟩⟩
theorem DIe.tup {l : List D} (he : DF X e ρ (.tup l)) : DIe X tg e ρ l := fun H0 Fc => PI.mono (ydv (he H0 Fc)) fun σ H R hz => x1_2 hz fun F Re k => ⟨F, Re, fun v H2 F2 s2 R2 q => by
 refine x2_3 (q.tup) fun a xs e1 sq r => ?_
 exact ⟨a, e1, ⟨xs, Same.tup R2.sub sq⟩, k _ H2 F2 s2 R2 (ycf sq r)⟩⟩
theorem DIe.range1 {p : Pos} {n : Int} (hg : Gl X "range") (hm : X.mg "range" = none) (ha : DA X [a] ρ [.int n]) (hs : zki a = true) (h1 : -(2 ^ 62) <= n) (h2 : n < 2 ^ 62) : DIe X tg (.Call (.Name "range" p) [a] [] pos) ρ (zld 0 n.toNat) := fun H0 Fc =>
 PI.mono (zwp hg hm (ha H0 Fc) (zkm hs)) fun σ H R hz => x1_2 hz fun F Re k => ⟨F, Re, fun vs H2 F2 s2 R2 q => by
  refine x1_2 (q.one) fun v e q => ?_
  rw [q.int] at e
  exact ⟨n, e, h1, h2, k _ H2 F2 s2 R2 zmu⟩⟩
theorem DIe.range2 {p : Pos} {m n : Int} (hg : Gl X "range") (hm : X.mg "range" = none) (ha : DA X [a, b] ρ [.int m, .int n]) (hs : zki a = true) (hs2 : zki b = true) (h : -(2 ^ 62) <= m /\ m < 2 ^ 62 /\ -(2 ^ 62) <= n /\ n < 2 ^ 62) :
  DIe X tg (.Call (.Name "range" p) [a, b] [] pos) ρ (zld m (n - m).toNat) := fun H0 Fc =>
 PI.mono (zwo hg hm (ha H0 Fc) (by rw [zkm hs, zkm hs2]; rfl) (by rw [zkm hs2]; rfl)) fun σ H R hz => x1_2 hz fun F Re k => ⟨F, Re, fun vs H2 F2 s2 R2 q => by
  refine x2_3 (q.two) fun v u e q1 q2 => ?_
  rw [q1.int, q2.int] at e
  exact ⟨m, n, e, h, k _ H2 F2 s2 R2 zmu⟩⟩
theorem ER.set {K : PySem.W.Frag} {H0 Fc F H : Hp} {σ : L2.St} (R : ER K H0 Fc F H σ ρ) {i : Nat} {v : V} (q : Den K F d v) (hi : i < ρ.length) (hs : i < σ.length) : ER K H0 Fc F H (σ.set i (some v)) (ρ.set i (some d)) :=
 ⟨R.sub, R.same, R.base, R.new, fun j d' e => by
  by_cases hj : j = i
  ·subst hj
   rw [zbx hi] at e
   cases e
   exact ⟨v, zbx hs, q⟩
  ·rw [zbm (zda hj)] at e ⊢
   exact R.env j d' e⟩
theorem DGe.name {i : Nat} {x : Str} (hN : X.N.Nodup) (hi : X.N[i]? = some x) (hx : X.env.scope.names.lookup x = some .local) (hl : i < ρ.length) : DGe X (.Name x pos) d ρ (ρ.set i (some d)) := fun H0 Fc =>
 PG.mono (ydx hN hi (.inl hx) (.inr hx)) fun v σ H Q hz => xaeaaa hz fun hlen F R q k => k _ (by rw [zcd]; exact hlen) (R.set q hl (by rw [hlen]; exact (zal.mp hi).1))
noncomputable def DGse (X : Cx) (tg : List Expr) (ds : List D) (ρ ρ' : Rho) : Prop := ∀ H0 Fc, PGs X tg (fun vs σ H Q => σ.length = X.N.length /\ ∃ F, ER X.K H0 Fc F H σ ρ /\ DenL X.K F ds vs /\ ∀ σ', σ'.length = X.N.length -> ER X.K H0 Fc F H σ' ρ' -> Q σ' H)
theorem DGse.nil : DGse X [] [] ρ ρ := fun H0 Fc => PGs.mono ydw fun vs σ H Q hz => xaeaaa hz fun hl F S q k => ⟨q.inv_nil, k σ hl S⟩
theorem DGse.cons (h1 : DGe X t d ρ ρ') (h2 : DGse X ts ds ρ' ρ2) (hs : zki t = true) : DGse X (t :: ts) (d :: ds) ρ ρ2 := fun H0 Fc =>
 PGs.mono (zzk (h1 H0 Fc) (h2 H0 Fc) (by rw [zlt hs]; rfl)) fun vs σ H Q hz => xaeaaa hz fun hl F S q k => by
  refine x2_3 (q.inv_cons) fun v r e q1 q2 => ?_
  exact ⟨v, r, e, hl, F, S, q1, fun σ' hl' S' => ⟨hl', F, S', q2, k⟩⟩
theorem DGe.tup {k} (hc : X.calm = true) (h : DGse X ts ds ρ ρ') (hs : ts.all zki = true) (hl : ds.length = ts.length) : DGe X (.Tuple ts k pos) (.tup ds) ρ ρ' := fun H0 Fc =>
 PG.mono (yli (n := ts.length) hc (h H0 Fc) (zkv hs).1 (zkv hs).2) fun v σ H Q hz => xaeaaa hz fun hln F S q k => by
  refine x2_3 (q.tup) fun a xs e sq r => ?_
  exact ⟨a, xs, e, Same.tup S.sub sq, by rw [r.length]; exact hl, hln, F, S, r, k⟩
structure CompOk (X : Cx) (scope : Scope) (ts frees : List Str) (fr : List Nat) : Prop where
 kind : scope.kind = .function
 cell : ∀ y ∈ scope.names, y.2 ≠ .cell
 names : ∀ y ∈ scope.names, y.2 = .local -> scope.names.lookup y.1 = some .local
 all : ∀ y ∈ scope.names, y.2 = .free -> X.env.kindOf y.1 = some .cell
 free : ∀ (m : Nat) (x : Str), frees[m]? = some x -> scope.names.lookup x = some .free /\ X.env.kindOf x = some .cell /\ ∃ j : Nat, fr[m]? = some j /\ X.N[j]? = some x
 len : fr.length = frees.length
noncomputable def ykv (X : Cx) (scope : Scope) (N' : List Str) (X' : Cx) : Prop := ∃ cl C s₀ H₀ ex, X' = blk X scope cl C N' s₀ H₀ ex
theorem zrb {pins : List (Addr × Obj)} {s : Shared} {σ : L2.St} {H : Hp} {scope : Scope} {ts frees : List Str} {fr : List Nat} (I : Inv X pins σ H s) (hC : CompOk X scope ts frees fr) : ∀ y ∈ scope.names, y.2 = .free -> ∃ c, X.env.cells.lookup y.1 = some c :=
 fun y hy hf => I.ok.has y.1 (.inl (hC.all y hy hf))
theorem DE.comp {elt iter : Expr} {ifs : List Expr} {scope : Scope} {ts frees : List Str} {fr : List Nat} {items res : List D} {f : D -> Option (Option D)} (hcalm : X.calm = true) (hC : CompOk X scope ts frees fr) (hi : DIe X tg iter ρ items) (hs : ∀ x, foldedSetIterable iter X.env x = pure x)
  (hsz : items.length <= sizeLine) (hres : znp f items = some res)
  (hblk : ∀ (X' : Cx), ykv X scope (ts ++ frees) X' -> ∀ (d : D) (o : Option D), d ∈ items -> f d = some o -> ∃ ρd, DGe X' tg d (blkR ts.length fr ρ) ρd /\ (∀ (i : Nat) d, (blkR ts.length fr ρ)[i]? = some (some d) -> ρd[i]? = some (some d)) /\
   (match o with | none => DTs X' ifs ρd false | some e => DTs X' ifs ρd true /\ DF X' elt ρd e)) :
  DE X (.ListComp elt [⟨tg, iter, ifs, 0⟩] scope pos) ρ (.new res) := by
 intro H0 Fc pins s σ H Q I ⟨F, R, k⟩
 rw [eval_ListComp]
 refine zje (use := none) rfl hs (yme (zrb I hC)) hC.kind hC.names (thn (hi H0 Fc pins s σ H (fun J H' => ∃ F', Same F F' /\ ER X.K H0 Fc F' H' σ ρ /\ Walks X.K F' J items) I ⟨F, R, fun J H' F' s' R' wk => ⟨F', s', R', wk⟩⟩) fun v s1 h1 => thn h1 fun itv s2 h2 => ?_)
 obtain ⟨it, fp, tn, J, H1, e1, I2, T, tn0, hfp, F1, sF1, R1, wk⟩ := h2
 subst e1
 refine ztt (K := X.K) rfl (σ' := blkR ts.length fr σ) (ρ0 := blkR ts.length fr ρ) (N' := ts ++ frees) I2 hcalm T tn0 hfp hC.kind hC.cell (zrb I hC) R1 ?_ ?_ ?_ wk hsz hres (fun C s₀ H₀ d o hd ho => hblk _ ⟨_, C, s₀, H₀, fp, rfl⟩ d o hd ho) ?_
 ·rw [yao, zap, hC.len]
 ·intro i d e
  refine x2_3 (zoe e) fun m j e1 e2 e3 => ?_
  refine x1_2 (R1.env j d e3) fun v g1 g2 => ?_
  subst e1
  exact ⟨v, yge e2 g1, g2⟩
 ·intro i x v e1 e2
  refine x2_3 (zoe e2) fun m j e3 e4 e5 => ?_
  subst e3
  rw [zao (by omega), show ts.length + m - ts.length = m by omega] at e1
  refine xaaeaa (hC.free m x e1) fun g1 g2 j' g3 g4 => ?_
  rw [e4] at g3
  cases g3
  exact ⟨g1, g2, j, g4, e5⟩
 ·intro D C s5 H' F' ys m I5 hns hCn hCL hCs hCc hCp sF' R' hFD h0D hD dn
  refine ⟨m, hns, fun h' sb => ⟨.ref D, H', I5.turned (t' := s5.toks) (fun b o hb e => sb.extBut b o hb e) hCn hCL (.inr hCs) hCc hCp, rfl, k _ H' F' (sF1.trans sF') R' (RW.n hFD h0D hD dn)⟩⟩
theorem DS.asgComp {i : Nat} {x : Str} {px spos : Pos} {elt iter : Expr} {ifs : List Expr} {scope : Scope} {ts frees : List Str} {fr : List Nat} {items res : List D} {f : D -> Option (Option D)} {ρ : RhoS} (hN : X.N.Nodup) (hi' : X.N[i]? = some x) (hx : Loc X.env.scope x) (hf : X.fn x = true ∨ X.env.scope.names.lookup x = some .local) (hl : i < ρ.length)
  (hsw : swapsWith (.ListComp elt [⟨tg, iter, ifs, 0⟩] scope pos) (some (.Name x px)) spos.line X.env = pure true)
  (hcalm : X.calm = true) (hC : CompOk X scope ts frees fr) (hi : DIe X tg iter (view ρ) items) (hs : ∀ x, foldedSetIterable iter X.env x = pure x)
  (hsz : items.length <= sizeLine) (hres : znp f items = some res)
  (hblk : ∀ (X' : Cx), ykv X scope (ts ++ frees) X' -> ∀ (d : D) (o : Option D), d ∈ items -> f d = some o -> ∃ ρd, DGe X' tg d (blkR ts.length fr (view ρ)) ρd /\ (∀ (i : Nat) d, (blkR ts.length fr (view ρ))[i]? = some (some d) -> ρd[i]? = some (some d)) /\
   (match o with | none => DTs X' ifs ρd false | some e => DTs X' ifs ρd true /\ DF X' elt ρd e)) :
  DS X (.Assign [.Name x px] (.ListComp elt [⟨tg, iter, ifs, 0⟩] scope pos) spos) ρ (.nx ((after (.new res) ρ).set i (some (.ow res)))) := by
 intro H0 Fc pins s σ H D I ⟨F, S, k⟩
 refine x0_2 (S.borrow) fun s0 R => ?_
 rw [exec_Assign_Name_used _ _ _ _ hsw]
 refine zac (zga (zac ?_))
 show wpAny _ X.A (do let _ <- comprehension (.ListComp elt [⟨tg, iter, ifs, 0⟩] scope pos) scope X.env _ (newList []) false (eval iter X.env) (some (assign (.Name x px) X.env))) _ _ s
 refine zac (zfd (zje (use := some (assign (.Name x px) X.env)) (Q := fun _ s' => SP X pins D .next s') rfl hs (yme (zrb I hC)) hC.kind hC.names (thn (hi H0 Fc pins s σ H (fun J H' => ∃ F', Same (DL.borrow F H σ ρ) F' /\ ER X.K H0 Fc F' H' σ (view ρ) /\ Walks X.K F' J items) I ⟨_, R, fun J H' F' s' R' wk => ⟨F', s', R', wk⟩⟩) fun v s1 h1 => thn h1 fun itv s2 h2 => ?_)) (fun _ s' hq => zag (zag hq)) fun _ _ e => e)
 obtain ⟨it, fp, tn, J, H1, e1, I2, T, tn0, hfp, F1, sF1, R1, wk⟩ := h2
 subst e1
 refine ztt (K := X.K) rfl (σ' := blkR ts.length fr σ) (ρ0 := blkR ts.length fr (view ρ)) (N' := ts ++ frees) I2 hcalm T tn0 hfp hC.kind hC.cell (zrb I hC) R1 ?_ ?_ ?_ wk hsz hres (fun C s₀ H₀ d o hd ho => hblk _ ⟨_, C, s₀, H₀, fp, rfl⟩ d o hd ho) ?_
 ·rw [yao, zap, hC.len]
 ·intro i d e
  refine x2_3 (zoe e) fun m j e1 e2 e3 => ?_
  refine x1_2 (R1.env j d e3) fun v g1 g2 => ?_
  subst e1
  exact ⟨v, yge e2 g1, g2⟩
 ·intro i x v e1 e2
  refine x2_3 (zoe e2) fun m j e3 e4 e5 => ?_
  subst e3
  rw [zao (by omega), show ts.length + m - ts.length = m by omega] at e1
  refine xaaeaa (hC.free m x e1) fun g1 g2 j' g3 g4 => ?_
  rw [e4] at g3
  cases g3
  exact ⟨g1, g2, j, g4, e5⟩
 ·intro Da C s5 H' F' ys m I5 hns hCn hCL hCs hCc hCp sF' R' hFD h0D hD dn
  have q : RW X.K H0 F' H' (.new res) (.ref Da) := RW.n hFD h0D hD dn
  refine x1_3 (S.after (sF1.trans sF') R' q) fun F3 s3 S3 q3 => ?_
  refine wpAny_assign_Name (zvv I5 hN hi' hx (v := .ref Da) (u := .ref Da) rfl (fun s6 I6 hz => x1_2 hz fun a6 sb6 ha6 => ⟨m, ?_, fun h' sb => ?_⟩) hf)
  ·refine hns.sameBut sb6 (fun z => ?_)
   rcases ha6 with w | w
   ·exact hCL (z.trans w)
   ·exact hCc x a6 w z.symm
  ·refine ⟨_, H', I6.turned (t' := s6.toks) (fun b o hb e => sb.extBut b o hb e) hCn hCL (.inr hCs) hCc hCp, k _ H' F3 s3 (S3.bind q3 ?_ (Owned.not_after S (sF1.trans sF') q))⟩
   rw [<- S3.len, S.len]; exact hl
end
end DL
namespace DL
open PySem L2 PyProof.Rows
structure TC where
 N : List Str
 sc : Scope
 fns : List (Str × Nat × Nat)
 rzs : List (Str × Nat × Nat)
 xs : Bool
noncomputable def ixOf (x : Str) : List Str -> Option Nat
 | [] => none
 | y :: l => if x = y then some 0 else (ixOf x l).map (· + 1)
theorem zpa {x : Str} : ∀ {l : List Str} {i : Nat}, ixOf x l = some i -> l[i]? = some x
 | [], _, h => by cases h
 | y :: l, i, h => by
  unfold ixOf at h
  by_cases e : x = y
  ·rw [if_pos e] at h; cases h; simp [e]
  ·rw [if_neg e] at h
   refine x1_2 (zab.mp h) fun j hj e2 => ?_
   subst e2
   simpa using zpa hj
noncomputable def slot (c : TC) (x : Str) : Option Nat :=
 if (x == ("__debug__" : Str)) = true ∨ (x == ("__classdict__" : Str)) = true then none else match c.sc.names.lookup x with
  | some .local => ixOf x c.N
  | some .cell => ixOf x c.N
  | _ => none
noncomputable def isGl (c : TC) (x : Str) : Bool := !(x == ("__debug__" : Str)) && decide (c.sc.names.lookup x = some .globalImplicit)
noncomputable def trOp : Operator -> Option Op
 | .Add => some .add
 | .Sub => some .sub
 | .Mult => some .mul
 | .FloorDiv => some .fdiv
 | .Mod => some .mod
 | .Pow => some .pow
 | _ => none
noncomputable def trCm : CmpOp -> Option Cm
 | .Lt => some .lt
 | .LtE => some .le
 | .Gt => some .gt
 | .GtE => some .ge
 | .Eq => some .eq
 | .NotEq => some .ne
 | .Is => some .isN
 | .IsNot => some .notN
 | .In => some .isin
 | .NotIn => some .notin
noncomputable def trTy (x : Str) : Option Ty :=
 if x = Str.ofString Ty.int.nm then some .int else if x = Str.ofString Ty.bool.nm then some .bool else if x = Str.ofString Ty.tuple.nm then some .tuple else if x = Str.ofString Ty.list.nm then some .list else none
noncomputable def Bi.nm : Bi -> String
 | .len => "len" | .abs => "abs" | .min => "min" | .max => "max"
noncomputable def trBi (x : Str) : Option Bi := if x = Str.ofString Bi.len.nm then some .len else if x = Str.ofString Bi.abs.nm then some .abs else if x = Str.ofString Bi.min.nm then some .min else if x = Str.ofString Bi.max.nm then some .max else none
inductive Hd where
 | fn (f n : Nat) | bi (b : Bi) | isi | lst | no
noncomputable def zpb (c : TC) (x : Str) : Hd :=
 if isGl c x = true then match c.fns.lookup x with
  | some (f, n) => .fn f n
  | none => match trBi x with
   | some b => .bi b
   | none => if x = ("isinstance" : Str) then .isi else if x = ("list" : Str) then .lst else .no
 else .no
noncomputable def locs (sc : Scope) : List Str := sc.names.filterMap fun y => if y.2 = NameKind.local then some y.1 else none
noncomputable def frs' (sc : Scope) : List Str := sc.names.filterMap fun y => if y.2 = NameKind.free then some y.1 else none
noncomputable def relS (scope sc : Scope) : Scope := { scope with names := scope.names.map fun (n, k) => if (k == NameKind.free && sc.kind == .function && sc.names.lookup n == some .cell) = true then (n, NameKind.cell) else (n, k) }
noncomputable def frIx (N : List Str) : List Str -> Option (List Nat)
 | [] => some []
 | x :: l => (ixOf x N).bind fun i => (frIx N l).map fun r => i :: r
noncomputable def ybz (c : TC) (scope : Scope) : Bool :=
 decide (scope.kind = .function) && scope.names.all (fun y => decide (y.2 ≠ .cell)) && scope.names.all (fun y => decide (y.2 = .local -> scope.names.lookup y.1 = some .local)) &&
 scope.names.all (fun y => decide (y.2 = .free -> c.sc.names.lookup y.1 = some .cell /\ scope.names.lookup y.1 = some .free)) && decide ((locs scope ++ frs' scope).Nodup) && decide (c.sc.kind = .function)
noncomputable def isTup : Expr -> Bool
 | .Tuple _ _ _ => true
 | _ => false
noncomputable def yjf : Expr -> Bool
 | .Set _ _ _ => true
 | _ => false
noncomputable def isB (c : TC) (x : Str) (y : String) : Bool := isGl c x && (c.fns.lookup x).isNone && decide (x = Str.ofString y)
noncomputable def fmN (c : TC) (x : Str) : List Expr -> Option (Fm × List Expr)
 | [.Call (.Name y _) (a :: as) [] _] => if isB c x "sorted" = true /\ isB c y "set" = true then some (.ss, a :: as) else if isB c x "list" = true /\ isB c y "reversed" = true then some (.rev, a :: as) else none
 | _ => none
noncomputable def fmOf (c : TC) (x : Str) (es : List Expr) : Option (Fm × List Expr) := fmN c x es
noncomputable def trI1 (rE : Expr -> Option E) (c : TC) (tg : Expr) : Expr -> Option It'
 | .Call (.Name x p) [a] [] q => if isB c x "range" = true /\ zki a = true then (rE a).map It'.range1 else (rE (.Call (.Name x p) [a] [] q)).map It'.seq
 | .Call (.Name x p) [a, b] [] q => if isB c x "range" = true /\ zki a = true /\ zki b = true then (rE a).bind fun a' => (rE b).map fun b' => It'.range2 a' b' else (rE (.Call (.Name x p) [a, b] [] q)).map It'.seq
 | .Name x _ => (slot c x).map It'.seqV
 | e => if yjf e = false then (rE e).map It'.seq else none
noncomputable def yhs (c : TC) (x : Str) : Option Nat := if c.sc.names.lookup x = some .local then ixOf x c.N else none
noncomputable def zwb (c : TC) : List Expr -> Option (List Nat)
 | [] => some []
 | .Name x _ :: es => (yhs c x).bind fun i => (zwb c es).map fun l => i :: l
 | _ => none
noncomputable def yhl (c : TC) : Expr -> Option Tg
 | .Name x _ => (yhs c x).map Tg.name
 | .Tuple es _ _ => (zwb c es).map Tg.tup
 | _ => none
noncomputable def blkC (c : TC) (scope : Scope) : TC := ⟨locs scope ++ frs' scope, relS scope c.sc, c.fns, c.rzs, c.xs⟩
noncomputable def zwn : Expr -> Bool
 | .Name _ _ => true
 | .Constant _ _ _ => true
 | .Call _ _ _ _ => true
 | .Subscript _ _ _ => true
 | _ => false
noncomputable def yms (rE : Expr -> Option E) (p : Pos) : List Expr -> Option E
 | [a] => rE a
 | a :: b :: es => (rE a).bind fun a' => (rE (.BoolOp .And (b :: es) p)).map fun b' => .and a' b'
 | [] => none
noncomputable def trOr (rE : Expr -> Option E) (p : Pos) : List Expr -> Option E
 | [a] => rE a
 | a :: b :: es => (rE a).bind fun a' => (rE (.BoolOp .Or (b :: es) p)).map fun b' => .or a' b'
 | [] => none
noncomputable def trB (rE : Expr -> Option E) (p : Pos) (es : List Expr) : BoolOp -> Option E
 | .And => yms rE p es
 | .Or => trOr rE p es
noncomputable def trCp (rE : Expr -> Option E) (a : Expr) : List CmpOp -> List Expr -> Option E
 | [op], [b] => if behindInMarks op b = false then (trCm op).bind fun o => (rE a).bind fun a' => (rE b).map fun b' => .cmp o a' b' else none
 | _, _ => none
noncomputable def trN (rT : Expr -> Option E) (a : Expr) : UnaryOp -> Option E
 | .Not => (rT a).map E.not
 | _ => none
noncomputable def trT1 (rE : Expr -> Option E) (rT : Expr -> Option E) : Expr -> Option E
 | .UnaryOp o a _ => trN rT a o
 | .BoolOp o es p => trB rT p es o
 | .Compare a ops bs _ => trCp rE a ops bs
 | e => if zwn e = true then rE e else none
noncomputable def ycs (rT : Expr -> Option E) : List Expr -> Option EO
 | [] => some .non
 | [c] => (rT c).map EO.som
 | _ => none
noncomputable def trK : Const -> Option E
 | .int i => some (.int i)
 | .bool b => some (.bl b)
 | .none => some .non
 | _ => none
noncomputable def trU (rE : Expr -> Option E) (a : Expr) : UnaryOp -> Option E
 | .USub => (rE a).map E.neg
 | .Not => (rE a).map E.not
 | _ => none
noncomputable def trLC (rC : TC -> Expr -> Option E) (rT : TC -> Expr -> Option E) (rE : Expr -> Option E) (c : TC) (elt : Expr) (scope : Scope) : List Comprehension -> Option E
 | [⟨tg, iter, ifs, 0⟩] => if ybz c scope = true then (trI1 rE c tg iter).bind fun it => (yhl (blkC c scope) tg).bind fun t => (frIx c.N (frs' scope)).bind fun fr =>
   (rC (blkC c scope) elt).bind fun e => (ycs (rT (blkC c scope)) ifs).map fun k => .comp e t it (locs scope).length fr k else none
 | _ => none
noncomputable def trSb (rE : Expr -> Option E) (rO : Option Expr -> Option EO) (a : Expr) : Expr -> Option E
 | .Slice lo hi none _ => (rE a).bind fun a' => (rO lo).bind fun l => (rO hi).map fun h => .sl a' l h
 | b => if znz b = true then (rE a).bind fun a' => (rE b).map fun b' => .ix a' b' else none
noncomputable def yoc (c : TC) (x : Str) : Option (Nat × Nat) := if isGl c x = true then c.rzs.lookup x else none
noncomputable def yct (rE : Expr -> Option E) (rEs : List Expr -> Option Es) (c : TC) (x : Str) (e : Expr) (es : List Expr) : Option E := match yoc c x with
  | some q => if (e :: es).length = q.2 /\ zki e = true then (rE e).bind fun a => (rEs es).map fun l => E.callO q.1 a l else none
  | none => match fmOf c x (e :: es) with
  | some (f, as) => (rEs as).map (E.fm f)
  | none => match zpb c x with
  | .fn f k => if (e :: es).length = k then (rEs (e :: es)).map (E.call f) else none
  | .bi b => (rEs (e :: es)).map (E.bi b)
  | .isi => match es with
   | [.Name y _] => if isGl c y = true /\ zki e = true then (match trTy y with
     | some t => (rE e).map fun e' => .isi e' t
     | none => none) else none
   | _ => none
  | .lst => match es with
   | [] => if zki e = true then (rE e).map E.lcp else none
   | _ => none
  | .no => none
noncomputable def trE1 (rC : TC -> Expr -> Option E) (rT : TC -> Expr -> Option E) (rE : Expr -> Option E) (rEs : List Expr -> Option Es) (rO : Option Expr -> Option EO) (c : TC) : Expr -> Option E
 | .Name x _ => (slot c x).map E.var
 | .Constant k _ _ => trK k
 | .BinOp a op b _ => (trOp op).bind fun o => (rE a).bind fun a' => (rE b).map fun b' => .bin o a' b'
 | .UnaryOp o a _ => trU rE a o
 | .BoolOp o es p => trB rE p es o
 | .Compare a ops bs _ => trCp rE a ops bs
 | .Tuple es _ _ => (rEs es).map E.tup
 | .List es _ => (rEs es).map E.lst
 | .ListComp elt gs scope _ => trLC rC rT rE c elt scope gs
 | .Subscript a b _ => trSb rE rO a b
 | .Call (.Name x _) (e :: es) [] _ => yct rE rEs c x e es
 | _ => none
mutual
noncomputable def trE : Nat -> TC -> Expr -> Option E
 | 0, _, _ => none
 | n + 1, c, e => trE1 (trE n) (trT n) (trE n c) (trEs n c) (trO n c) c e
noncomputable def trEs : Nat -> TC -> List Expr -> Option Es
 | 0, _, _ => none
 | n + 1, c, [] => some .nil
 | n + 1, c, e :: es => if zki e = true then (trE n c e).bind fun e' => (trEs n c es).map fun l => .cons e' l else none
noncomputable def trO : Nat -> TC -> Option Expr -> Option EO
 | 0, _, _ => none
 | n + 1, c, none => some .non
 | n + 1, c, some e => (trE n c e).map EO.som
noncomputable def trT : Nat -> TC -> Expr -> Option E
 | 0, _, _ => none
 | n + 1, c, e => trT1 (trE n c) (trT n c) e
end
theorem zwm {e : Expr} {env : Env} (h : zwn e = true) : ∀ whole, isTrue e env whole = (do let v <- whole; standAt e.pos; holding [v] (truthy v)) := fun whole => by
 cases e <;> first | rfl | (cases h; done)
noncomputable abbrev zmx : List Str := [Str.ofString "len", Str.ofString "abs", Str.ofString "isinstance", Str.ofString "int", Str.ofString "bool", Str.ofString "tuple", Str.ofString "list", Str.ofString "range", Str.ofString "enumerate", Str.ofString "min", Str.ofString "max", Str.ofString "sorted", Str.ofString "set", Str.ofString "reversed", Str.ofString "zip", Str.ofString "sum"]
structure XE (X : Cx) (c : TC) (Γ : Nat -> List D -> Option W) : Prop where
 hN : X.N = c.N
 hsc : X.env.scope = c.sc
 nd : c.N.Nodup
 calm : X.calm = true
 kind : X.env.scope.kind = .function
 calls : ∀ x f n, c.fns.lookup x = some (f, n) -> ymh X x n (Γ f)
 xf : c.xs = true -> XFacts X.K X.mg
 un : X.A.units + 64 < cLine
 blt : ∀ x ∈ zmx, X.mg x = none
 rzo : ∀ x f n, c.rzs.lookup x = some (f, n) -> ygz X x n (Γ f)
structure XC (X : Cx) (c : TC) (Γ : Nat -> List D -> Option W) : Prop extends XE X c Γ where
 fn : ∀ x, X.fn x = true
 po : PassesOwn (model X.prog X.w) X.A X.env X.xe
 st : X.stack = X.env :: X.outer
 fr : X.env.frame = some X.env.locals
 nx : X.nox = X
section
variable {X : Cx} {c : TC} {Γ : Nat -> List D -> Option W}
theorem zlo (hX : XE X c Γ) {x : Str} {i : Nat} (h : slot c x = some i) : X.N[i]? = some x /\ Loc X.env.scope x /\ (x == ("__debug__" : Str)) = false /\ (x == ("__classdict__" : Str)) = false := by
 unfold slot at h
 by_cases z : (x == ("__debug__" : Str)) = true ∨ (x == ("__classdict__" : Str)) = true
 ·rw [if_pos z] at h; cases h
 ·rw [if_neg z] at h
  have z1 : (x == ("__debug__" : Str)) = false := by
   cases q : (x == ("__debug__" : Str)) with
   | false => rfl
   | true => exact absurd (.inl q) z
  have z2 : (x == ("__classdict__" : Str)) = false := by
   cases q : (x == ("__classdict__" : Str)) with
   | false => rfl
   | true => exact absurd (.inr q) z
  split at h
  ·rename_i e
   exact ⟨by rw [hX.hN]; exact zpa h, by rw [hX.hsc]; exact .inl e, z1, z2⟩
  ·rename_i e
   exact ⟨by rw [hX.hN]; exact zpa h, by rw [hX.hsc]; exact .inr e, z1, z2⟩
  ·cases h
theorem Loc.vis {sc : Scope} {x : Str} (h : Loc sc x) : Vis sc x := by
 rcases h with h | h
 ·exact .inl h
 ·exact .inr (.inl h)
theorem zoo (hX : XE X c Γ) {x : Str} (h : isGl c x = true) : Gl X x /\ (x == ("__debug__" : Str)) = false := by
 unfold isGl at h
 rw [zaj] at h
 refine ⟨?_, by simpa using h.1⟩
 show X.env.scope.names.lookup x = _
 rw [hX.hsc]
 exact of_decide_eq_true h.2
theorem zrh {ρ : Rho} {i : Nat} {d : D} (h : varD ρ i = some d) : ρ[i]? = some (some d) := by
 unfold varD at h
 split at h
 ·rename_i e; cases h; exact e
 ·cases h
theorem zsk {d : D} {i : Int} (h : dInt d = some i) : d = .int i := by
 cases d <;> first | (cases h; rfl) | (cases h; done)
theorem yby {d : D} {i : Bool} (h : znd d = some i) : d = .bl i := by
 cases d <;> first | (cases h; rfl) | (cases h; done)
theorem zyd {o : Option W} {d : D} (h : o.map W.d = some d) : ∃ w, o = some w /\ w.d = d := zab.mp h
theorem ygs {f : Int -> Int -> Option W} {x y : D} {w : W} (h : arW f x y = some w) : ∃ a b, x = .int a /\ y = .int b /\ f a b = some w := by
 unfold arW at h
 split at h
 ·exact ⟨_, _, rfl, rfl, h⟩
 ·cases h
theorem op_ok {e1 e2 : Expr} {op : Operator} {o : Op} {x y : D} {w : W} {ρ : Rho} {pos : Pos} (ho : trOp op = some o) (ha : DF X e1 ρ x) (hb : DF X e2 ρ y) (h : opW o x y = some w) : DE X (.BinOp e1 op e2 pos) ρ w := by
 have bits : ∀ {a : Int} {n : Nat}, a.natAbs < 2 ^ n -> Builtin.Int.intBits a <= n := fun {a n} h => by
  unfold Builtin.Int.intBits
  by_cases z : a = 0
  ·rw [if_pos (by simpa using z)]; exact zbr _
  ·rw [if_neg (by simpa using z)]
   have := (Nat.log2_lt (by omega)).mpr h
   omega
 cases op <;> first | (cases ho; done) | skip
 all_goals cases ho
 ·change addW x y = some w at h
  unfold addW at h
  split at h
  ·cases h; exact DE.opI0 op_add ha hb fun K F => Den.int_mk
  ·rename_i l m
   by_cases q : l.length + m.length <= sizeLine
   ·rw [if_pos q] at h
    cases h
    exact DE.cat ha hb q
   ·rw [if_neg q] at h; cases h
  ·cases h
 ·refine x2_3 (ygs h) fun i j qz2 qz3 h' => ?_; subst qz2; subst qz3
  clear h
  have h := h'
  clear h'
  cases h; exact DE.opI0 op_sub ha hb fun K F => Den.int_mk
 ·refine x2_3 (ygs h) fun i j qz2 qz3 h' => ?_; subst qz2; subst qz3
  clear h
  have h := h'
  clear h'
  by_cases q : zkz i j = true
  ·rw [if_pos q] at h
   cases h
   unfold zkz at q
   rw [zaj] at q
   have q1 := of_decide_eq_true q.1
   have q2 := of_decide_eq_true q.2
   exact DE.opI (C := IntMulOk) (L2.opI fun _ _ _ _ _ _ _ hc q => mul_int q hc) ha hb (PySem.IntMulOk.of_bits (zcb (bits q1) (by decide)) (zcb (bits q2) (by decide))) fun K F => Den.int_mk
  ·rw [if_neg q] at h; cases h
 ·refine x2_3 (ygs h) fun i j qz2 qz3 h' => ?_; subst qz2; subst qz3
  clear h
  have h := h'
  clear h'
  by_cases q : j = 0
  ·rw [if_pos q] at h; cases h
  ·rw [if_neg q] at h
   cases h
   exact DE.opI yoh ha hb q fun K F => Den.int_mk
 ·refine x2_3 (ygs h) fun i j qz2 qz3 h' => ?_; subst qz2; subst qz3
  clear h
  have h := h'
  clear h'
  by_cases q : zuk i j = true
  ·rw [if_pos q] at h
   cases h
   unfold zuk at q
   rw [zaj, zaj] at q
   have q1 := of_decide_eq_true q.1.1
   have q2 := of_decide_eq_true q.1.2
   have q3 := of_decide_eq_true q.2
   exact DE.opI op_pow ha hb ⟨q1, by omega, q3⟩ fun K F => Den.int_mk
  ·rw [if_neg q] at h; cases h
 ·refine x2_3 (ygs h) fun i j qz2 qz3 h' => ?_; subst qz2; subst qz3
  clear h
  have h := h'
  clear h'
  by_cases q : zqo j = true
  ·rw [if_pos q] at h
   cases h
   unfold zqo at q
   rw [zaj] at q
   have q1 := of_decide_eq_true q.1
   have q2 := of_decide_eq_true q.2
   refine DE.opI (C := fun i j => j ≠ 0 /\ j.natAbs < 2 ^ 9000) (L2.opI fun _ _ _ _ _ _ _ hc q => floordiv_int hc.1 q (.inl (PyProof.noPylong_of_log2 ?_))) ha hb ⟨q1, q2⟩ fun K F => Den.int_mk
   refine (Nat.log2_lt ?_).mpr hc.2
   have := hc.1
   omega
  ·rw [if_neg q] at h; cases h
end
end DL
namespace DL
open PySem L2 PyProof.Rows
section
variable {X : Cx} {c : TC} {Γ : Nat -> List D -> Option W}
theorem two_of {a b : Bool} (h : (a && b) = true) : a = true /\ b = true := by simpa using h
theorem zzo {f : Int -> Int -> Bool} {x y : D} {k : Bool} (h : ordO f x y = some k) : ∃ a b, x = .int a /\ y = .int b /\ f a b = k := by
 unfold ordO at h
 split at h
 ·cases h; exact ⟨_, _, rfl, rfl, rfl⟩
 ·cases h
theorem inO_s {x y : D} {k : Bool} (h : inO x y = some k) : ∃ l, y = .lst l /\ dOk 50 x = true /\ dOkL 49 l = true /\ (l.any fun y => eqD y x) = k := by
 unfold inO at h
 split at h
 ·split at h
  ·rename_i q
   cases h; exact ⟨_, rfl, (two_of q).1, (two_of q).2, rfl⟩
  ·cases h
 ·cases h
theorem yln {x y : D} {k : Bool} (h : nonO x y = some k) : y = .non /\ zxb x = k := by
 unfold nonO at h
 split at h
 ·cases h; exact ⟨rfl, rfl⟩
 ·cases h
theorem ylz {x y : D} {k : Bool} (hu : X.A.units + 64 < cLine) (h : eqO x y = some k) : znf X .Eq x y k /\ znf X .NotEq x y (!k) := by
 have dl : ∀ {l : List D}, dOkL 49 l = true -> dOk 50 (.lst l) = true := fun q => by simp only [dOk]; exact q
 have dt : ∀ {l : List D}, dOkL 49 l = true -> dOk 50 (.tup l) = true := fun q => by simp only [dOk]; exact q
 unfold eqO at h
 split at h
 ·cases h; exact ⟨yqe, yqa⟩
 ·cases h; exact ⟨yqf, yqb⟩
 ·split at h
  ·rename_i q
   cases h
   have z := yfy (X := X) hu (dt (two_of q).1) (dt (two_of q).2)
   have z2 := yfx (X := X) hu (dt (two_of q).1) (dt (two_of q).2)
   simp only [eqD] at z z2
   exact ⟨z, z2⟩
  ·cases h
 ·split at h
  ·rename_i q
   cases h
   have z := yfy (X := X) hu (dl (two_of q).1) (dl (two_of q).2)
   have z2 := yfx (X := X) hu (dl (two_of q).1) (dl (two_of q).2)
   simp only [eqD] at z z2
   exact ⟨z, z2⟩
  ·cases h
 ·cases h
theorem ymc {op : CmpOp} {o : Cm} {x y : D} {k : Bool} (hu : X.A.units + 64 < cLine) (ho : trCm op = some o) (h : cmpD o x y = some k) : znf X op x y k := by
 cases op <;> first | (cases ho; done) | skip
 all_goals cases ho
 ·exact (ylz hu h).1
 ·refine x1_2 (zab.mp h) fun j hj e => ?_
  subst e
  exact (ylz hu hj).2
 ·refine x2_3 (zzo h) fun a b qz2 qz3 qz4 => ?_; subst qz2; subst qz3; subst qz4
  exact cmp_lt
 ·refine x2_3 (zzo h) fun a b qz2 qz3 qz4 => ?_; subst qz2; subst qz3; subst qz4
  exact cmp_le
 ·refine x2_3 (zzo h) fun a b qz2 qz3 qz4 => ?_; subst qz2; subst qz3; subst qz4
  exact cmp_gt
 ·refine x2_3 (zzo h) fun a b qz2 qz3 qz4 => ?_; subst qz2; subst qz3; subst qz4
  exact cmp_ge
 ·refine x0_2 (yln h) fun qz0 qz1 => ?_; subst qz0; subst qz1
  exact yqc
 ·refine x1_2 (zab.mp h) fun j hj e => ?_
  subst e
  refine x0_2 (yln hj) fun qz0 qz1 => ?_; subst qz0; subst qz1
  exact ykb
 ·refine x1_4 (inO_s h) fun l qz1 h1 h2 qz4 => ?_; subst qz1; subst qz4
  exact yqd hu h1 h2
 ·refine x1_2 (zab.mp h) fun j hj e => ?_
  subst e
  refine x1_4 (inO_s hj) fun l qz1 h1 h2 qz4 => ?_; subst qz1; subst qz4
  exact ykc hu h1 h2
theorem ycp {x : Str} {t : Ty} (h : trTy x = some t) : x = Str.ofString t.nm := by
 unfold trTy at h
 repeat' split at h
 all_goals first | (cases h; assumption) | (cases h; done)
theorem ycu {x : Str} {t : Bi} (h : trBi x = some t) : x = Str.ofString t.nm := by
 unfold trBi at h
 repeat' split at h
 all_goals first | (cases h; assumption) | (cases h; done)
theorem bi_ok {b : Bi} {ds : List D} {w : W} (hc : X.calm = true) (h : biW b ds = some w) : ztf X (.builtin b.nm) ds w := by
 cases b
 ·change lenW ds = _ at h
  unfold lenW at h
  split at h
  ·cases h; exact yki
  ·cases h; exact ykh
  ·cases h
 ·change absW ds = _ at h
  unfold absW at h
  split at h
  ·cases h; exact yqo
  ·cases h
 ·change minW ds = _ at h
  unfold minW at h
  split at h
  ·cases h; exact yqm hc
  ·cases h
 ·change maxW ds = _ at h
  unfold maxW at h
  split at h
  ·cases h; exact yqn hc
  ·cases h
theorem yql (b : Bi) : bootBuiltins (Str.ofString b.nm) = some (.builtin b.nm) := by cases b <;> decide +kernel
theorem ygh (b : Bi) : Str.ofString b.nm ≠ "__name__" /\ Str.ofString b.nm ∈ zmx := by cases b <;> decide +kernel
theorem ymm (b : Ty) : Str.ofString b.nm ∈ zmx := by cases b <;> decide +kernel
theorem znq : ∀ {n : Nat} {es : List Expr} {l : Es}, trEs n c es = some l -> es.all zki = true
 | 0, _, _, h => by simp only [trEs] at h; cases h
 | n + 1, [], _, _ => rfl
 | n + 1, e :: es, l, h => by
  simp only [trEs] at h
  by_cases q : zki e = true
  ·rw [if_pos q] at h
   refine x1_2 (zaa.mp h) fun e' _ h => ?_
   refine x1_2 (zab.mp h) fun l' h _ => ?_
   rw [zdk, q, znq h]; rfl
  ·rw [if_neg q] at h; cases h
theorem yfl : ∀ {l : Es} {ρ : Rho} {ds : List D} {n : Nat} {es : List Expr}, trEs n c es = some l -> evs Γ l ρ = some ds -> ds.length = es.length := by
 intro l ρ ds n
 induction n generalizing l ds with
 | zero => intro es h; simp only [trEs] at h; cases h
 | succ n ih =>
  intro es h hv
  cases es with
  | nil =>
   simp only [trEs] at h
   cases h
   simp only [evs] at hv
   cases hv; rfl
  | cons e es =>
   simp only [trEs] at h
   by_cases q : zki e = true
   ·rw [if_pos q] at h
    refine x1_2 (zaa.mp h) fun e' _ h => ?_
    refine x1_2 (zab.mp h) fun l' h3 z => ?_
    subst z
    simp only [evs] at hv
    refine x1_2 (zaa.mp hv) fun d _ hv => ?_
    refine x1_2 (zab.mp hv) fun ds' hv3 z => ?_
    subst z
    rw [zah, zah, ih h3 hv3]
   ·rw [if_neg q] at h; cases h
theorem ownW_s {φ : List D -> Option W} {w r : W} {ds : List D} (h : ownW φ w ds = some r) : ∃ l d, w = .new l /\ r = .val d /\ φ (.lst l :: ds) = some (.val d) := by
 unfold ownW at h
 split at h
 ·refine x1_2 (zaa.mp h) fun u hu h => ?_
  cases u with
  | val d => cases h; exact ⟨_, d, rfl, rfl, hu⟩
  | new l => cases h
 ·cases h
theorem yob {x : Str} {q : Nat × Nat} (hX : XE X c Γ) (h : yoc c x = some q) : c.rzs.lookup x = some (q.1, q.2) /\ Gl X x /\ (x == ("__debug__" : Str)) = false := by
 unfold yoc at h
 split at h
 ·rename_i hg
  exact ⟨h, zoo hX hg⟩
 ·cases h
theorem ybq {x : Str} (hX : XE X c Γ) (hh : zpb c x = .isi) : x = ("isinstance" : Str) /\ Gl X "isinstance" := by
 unfold zpb at hh
 split at hh
 ·rename_i hg
  split at hh
  ·cases hh
  ·split at hh
   ·cases hh
   ·split at hh
    ·rename_i ex
     subst ex
     exact ⟨rfl, (zoo hX hg).1⟩
    ·split at hh <;> cases hh
 ·cases hh
theorem ybp {x : Str} (hX : XE X c Γ) (hh : zpb c x = .lst) : x = ("list" : Str) /\ Gl X "list" := by
 unfold zpb at hh
 split at hh
 ·rename_i hg
  split at hh
  ·cases hh
  ·split at hh
   ·cases hh
   ·split at hh
    ·cases hh
    ·split at hh
     ·rename_i ex
      subst ex
      exact ⟨rfl, (zoo hX hg).1⟩
     ·cases hh
 ·cases hh
theorem yez {x : Str} {f k : Nat} (hX : XE X c Γ) (hh : zpb c x = .fn f k) : c.fns.lookup x = some (f, k) /\ Gl X x /\ (x == ("__debug__" : Str)) = false := by
 unfold zpb at hh
 split at hh
 ·rename_i hg
  split at hh
  ·rename_i f' k' hf
   cases hh
   exact ⟨hf, zoo hX hg⟩
  ·split at hh
   ·cases hh
   ·split at hh
    ·cases hh
    ·split at hh <;> cases hh
 ·cases hh
theorem yfa {x : Str} {b : Bi} (hX : XE X c Γ) (hh : zpb c x = .bi b) : x = Str.ofString b.nm /\ Gl X x /\ (x == ("__debug__" : Str)) = false := by
 unfold zpb at hh
 split at hh
 ·rename_i hg
  split at hh
  ·cases hh
  ·split at hh
   ·rename_i b' hb
    cases hh
    exact ⟨ycu hb, zoo hX hg⟩
   ·split at hh
    ·cases hh
    ·split at hh <;> cases hh
 ·cases hh
theorem zqb (hX : XE X c Γ) {x : Str} {y : String} (h : isB c x y = true) : Gl X x /\ x = Str.ofString y := by
 unfold isB at h
 rw [zaj, zaj] at h
 exact ⟨(zoo hX h.1.1).1, of_decide_eq_true h.2⟩
theorem yjn {x : Str} {es as : List Expr} {f : Fm} (h : fmN c x es = some (f, as)) : ∃ y p2 q2 a as', es = [.Call (.Name y p2) (a :: as') [] q2] /\ as = a :: as' /\ ((f = .ss /\ isB c x "sorted" = true /\ isB c y "set" = true) ∨ (f = .rev /\ isB c x "list" = true /\ isB c y "reversed" = true)) := by
 unfold fmN at h
 split at h
 ·split at h
  ·rename_i q; cases h; exact ⟨_, _, _, _, _, rfl, rfl, .inl ⟨rfl, q.1, q.2⟩⟩
  ·split at h
   ·rename_i q; cases h; exact ⟨_, _, _, _, _, rfl, rfl, .inr (⟨rfl, q.1, q.2⟩)⟩
   ·cases h
 ·cases h
theorem ssW_s {ds : List D} {w : W} (h : ssW ds = some w) : ∃ l ks, ds = [.lst l] /\ zut l = some ks /\ ks.length <= 63 /\ w = .new ((ssK ks).map dK) := by
 unfold ssW at h
 split at h
 ·refine x1_2 (zaa.mp h) fun ks hk h => ?_
  split at h
  ·rename_i hn
   cases h
   exact ⟨_, ks, rfl, hk, hn, rfl⟩
  ·cases h
 ·cases h
theorem revW_s {ds : List D} {w : W} (h : revW ds = some w) : ∃ l, ds = [.lst l] /\ w = .new l.reverse := by
 unfold revW at h
 split at h
 ·cases h; exact ⟨_, rfl, rfl⟩
 ·cases h
theorem fm_ok (hX : XE X c Γ) {x : Str} {p pos : Pos} {es as : List Expr} {f : Fm} {ds : List D} {w : W} {ρ : Rho} (hf : fmOf c x es = some (f, as)) (hs : as.all zki = true) (ha : DA X as ρ ds) (hw : fmW f ds = some w) : DE X (.Call (.Name x p) es [] pos) ρ w := by
 have hu : X.A.units + 16 < cLine := by have := hX.un; omega
 unfold fmOf at hf
 refine x5_3 (yjn hf) fun y p2 q2 a as' qz5 qz6 h => ?_; subst qz5; subst qz6
 rw [zdk, zaj] at hs
 rcases h with ⟨rfl, h1, h2⟩ | ⟨rfl, h1, h2⟩
 ·refine x0_2 (zqb hX h1) fun g1 e1 => ?_
  refine x0_2 (zqb hX h2) fun g2 e2 => ?_
  subst e1; subst e2
  refine x2_4 (ssW_s hw) fun l0 ks e3 hk hn e4 => ?_
  subst e3; subst e4
  exact DE.nestB (yop hX.calm hu hk hn) g1 (hX.blt _ (by decide +kernel)) (by decide +kernel) (by decide) (by decide) g2 (hX.blt _ (by decide +kernel)) (by decide +kernel) (by decide) (by decide) ha hs.1 hs.2
 ·refine x0_2 (zqb hX h1) fun g1 e1 => ?_
  refine x0_2 (zqb hX h2) fun g2 e2 => ?_
  subst e1; subst e2
  refine x1_2 (revW_s hw) fun l0 e3 e4 => ?_
  subst e3; subst e4
  exact DE.nestT (yir hX.calm) g1 (hX.blt _ (by decide +kernel)) (by decide +kernel) (by decide) (by decide) g2 (hX.blt _ (by decide +kernel)) (by decide +kernel) (by decide) (by decide) ha hs.1 hs.2
theorem zwg {d : D} {l : List D} (h : seqD d = some l) : d = .lst l ∨ d = .tup l := by
 cases d <;> first | (cases h; done) | (cases h; first | exact .inl rfl | exact .inr rfl)
theorem ymq {rE : Expr -> Option E} (hX : XE X c Γ) (iF : ∀ {e e' ρ d}, rE e = some e' -> (ev Γ e' ρ).map W.d = some d -> DF X e ρ d) {tg e : Expr} {i : It'} {ρ : Rho} {l : List D} (h : trI1 rE c tg e = some i) (hv : evW Γ i ρ = some l) : DIe X tg e ρ l /\ yjf e = false := by
 have iI : ∀ {e e' ρ k}, rE e = some e' -> ((ev Γ e' ρ).map W.d).bind dInt = some k -> DF X e ρ (.int k) := fun {e e' ρ k} h hv => by
  refine x1_2 (zaa.mp hv) fun d h1 h2 => ?_
  rw [zsk h2] at h1
  exact iF h h1
 have iS : ∀ {e e' ρ l}, rE e = some e' -> evW Γ (.seq e') ρ = some l -> DIe X tg e ρ l := fun {e e' ρ l} h hv => by
  simp only [evW] at hv
  refine x1_2 (zaa.mp hv) fun d h1 h2 => ?_
  rcases zwg h2 with z | z
  ·subst z; exact DIe.list (iF h h1)
  ·subst z; exact DIe.tup (iF h h1)
 unfold trI1 at h
 split at h
 ·refine ⟨?_, rfl⟩
  split at h
  ·rename_i q
   refine x1_2 (zab.mp h) fun a' ha h => ?_
   subst h
   simp only [evW] at hv
   refine x1_2 (zaa.mp hv) fun m hm hv => ?_
   split at hv
   ·rename_i z
    cases hv
    refine x0_2 (zqb hX q.1) fun g1 g2 => ?_
    subst g2
    exact DIe.range1 g1 (hX.blt _ (by decide +kernel)) (DA.cons (iI ha hm) DA.nil q.2) q.2 z.1 z.2
   ·cases hv
  ·refine x1_2 (zab.mp h) fun e' he h => ?_
   subst h
   exact iS he hv
 ·refine ⟨?_, rfl⟩
  split at h
  ·rename_i q
   refine x1_2 (zaa.mp h) fun a' ha h => ?_
   refine x1_2 (zab.mp h) fun b' hb h => ?_
   subst h
   simp only [evW] at hv
   refine x1_2 (zaa.mp hv) fun m hm hv => ?_
   refine x1_2 (zaa.mp hv) fun m2 hm2 hv => ?_
   split at hv
   ·rename_i z
    cases hv
    refine x0_2 (zqb hX q.1) fun g1 g2 => ?_
    subst g2
    exact DIe.range2 g1 (hX.blt _ (by decide +kernel)) (DA.cons (iI ha hm) (DA.cons (iI hb hm2) DA.nil q.2.2) q.2.1) q.2.1 q.2.2 z
   ·cases hv
  ·refine x1_2 (zab.mp h) fun e' he h => ?_
   subst h
   exact iS he hv
 ·refine x1_2 (zab.mp h) fun i hi h => ?_
  subst h
  simp only [evW] at hv
  refine x1_2 (zaa.mp hv) fun d h1 h2 => ?_
  refine x0_4 (zlo hX hi) fun a1 a2 a3 a4 => ?_
  refine ⟨?_, rfl⟩
  rcases zwg h2 with z | z
  ·subst z; exact DIe.list (DF.var a1 (Loc.vis a2) a3 a4 (zrh h1))
  ·subst z; exact DIe.tup (DF.var a1 (Loc.vis a2) a3 a4 (zrh h1))
 ·split at h
  ·rename_i q
   refine x1_2 (zab.mp h) fun e' he h => ?_
   subst h
   exact ⟨iS he hv, q⟩
  ·cases h
theorem noSet {e : Expr} {env : Env} (h : yjf e = false) : ∀ x, foldedSetIterable e env x = pure x := fun x => by
 cases e <;> first | (cases h; done) | rfl
theorem blk_xe (hX : XE X c Γ) {scope : Scope} (hB : ybz c scope = true) {X' : Cx} (h : ykv X scope (locs scope ++ frs' scope) X') : XE X' (blkC c scope) Γ := by
 refine x5_1 h fun cl C s₀ H₀ ex qz5 => ?_; clear h; subst qz5
 unfold ybz at hB
 simp only [zaj, decide_eq_true_eq] at hB
 obtain ⟨⟨⟨⟨⟨b1, b2⟩, b3⟩, b4⟩, b5⟩, b6⟩ := hB
 refine ⟨rfl, ?_, b5, hX.calm, ?_, hX.calls, hX.xf, hX.un, hX.blt, hX.rzo⟩
 ·show relabel scope X.env = relS scope c.sc
  rw [<- hX.hsc]
  rfl
 ·show (relabel scope X.env).kind = .function
  exact b1
theorem yit {sc : Scope} {x : Str} (h : x ∈ frs' sc) : (x, NameKind.free) ∈ sc.names := by
 unfold frs' at h
 refine x1_2 (zef.mp h) fun y hy e => ?_
 split at e
 ·rename_i k
  cases e
  rw [<- k]
  exact hy
 ·cases e
theorem yac {N : List Str} : ∀ {l : List Str} {fr : List Nat}, frIx N l = some fr -> fr.length = l.length /\ ∀ (m : Nat) (x : Str), l[m]? = some x -> ∃ j : Nat, fr[m]? = some j /\ N[j]? = some x
 | [], fr, h => by simp only [frIx] at h; cases h; exact ⟨rfl, fun m x e => by simp at e⟩
 | y :: l, fr, h => by
  simp only [frIx] at h
  refine x1_2 (zaa.mp h) fun i hi h => ?_
  refine x1_2 (zab.mp h) fun r hr h => ?_
  subst h
  refine x0_2 (yac hr) fun g1 g2 => ?_
  refine ⟨by rw [zah, zah, g1], fun m x e => ?_⟩
  cases m with
  | zero => simp at e; subst e; exact ⟨i, by simp, zpa hi⟩
  | succ m => simpa using g2 m x (by simpa using e)
theorem ypy (hX : XE X c Γ) {scope : Scope} {fr : List Nat} (hB : ybz c scope = true) (hf : frIx c.N (frs' scope) = some fr) : CompOk X scope (locs scope) (frs' scope) fr := by
 unfold ybz at hB
 simp only [zaj, decide_eq_true_eq, List.all_eq_true] at hB
 obtain ⟨⟨⟨⟨⟨b1, b2⟩, b3⟩, b4⟩, b5⟩, b6⟩ := hB
 refine x0_2 (yac hf) fun g1 g2 => ?_
 refine ⟨b1, b2, b3, fun y hy hk => ?_, fun m x e => ?_, g1⟩
 ·show X.env.scope.names.lookup y.1 = _
  rw [hX.hsc]
  exact (b4 y hy hk).1
 ·refine x1_2 (g2 m x e) fun j e1 e2 => ?_
  have := b4 _ (yit (zar e)) rfl
  refine ⟨this.2, ?_, j, e1, by rw [hX.hN]; exact e2⟩
  show X.env.scope.names.lookup x = _
  rw [hX.hsc]
  exact this.1
theorem zzc (hX : XE X c Γ) {x : Str} {i : Nat} (h : yhs c x = some i) : X.N[i]? = some x /\ X.env.scope.names.lookup x = some .local := by
 unfold yhs at h
 split at h
 ·rename_i k
  exact ⟨by rw [hX.hN]; exact zpa h, by rw [hX.hsc]; exact k⟩
 ·cases h
theorem zot {ρ ρ' : Rho} {i : Nat} {d : D} (h : setE ρ i d = some ρ') : i < ρ.length /\ ρ' = ρ.set i (some d) := by
 unfold setE at h
 by_cases q : i < ρ.length
 ·rw [if_pos q] at h; cases h; exact ⟨q, rfl⟩
 ·rw [if_neg q] at h; cases h
theorem zwa (hX : XE X c Γ) : ∀ {ts : List Expr} {is : List Nat} {ds : List D} {ρ ρ' : Rho}, zwb c ts = some is -> zmy is ds ρ = some ρ' -> DGse X ts ds ρ ρ' /\ ts.all zki = true /\ ds.length = ts.length
 | [], is, ds, ρ, ρ', h, hb => by
  simp only [zwb] at h
  cases h
  cases ds with
  | nil => cases hb; exact ⟨DGse.nil, rfl, rfl⟩
  | cons d ds => cases hb
 | t :: ts, is, ds, ρ, ρ', h, hb => by
  unfold zwb at h
  split at h
  ·rename_i z; cases z
  ·rename_i x p es z
   cases z
   refine x1_2 (zaa.mp h) fun i hi h => ?_
   refine x1_2 (zab.mp h) fun l hl h => ?_
   subst h
   cases ds with
   | nil => cases hb
   | cons d ds =>
    simp only [zmy] at hb
    refine x1_2 (zaa.mp hb) fun ρ1 h1 hb => ?_
    refine x0_2 (zot h1) fun q e => ?_
    subst e
    refine x0_3 (zwa hX hl hb) fun g g2 g3 => ?_
    refine x0_2 (zzc hX hi) fun a1 a2 => ?_
    exact ⟨DGse.cons (DGe.name (by rw [hX.hN]; exact hX.nd) a1 a2 q) g rfl, by rw [zdk, g2]; rfl, by rw [zah, zah, g3]⟩
  ·cases h
theorem yhk (hX : XE X c Γ) {tg : Expr} {t : Tg} (h : yhl c tg = some t) {d : D} {ρ ρ' : Rho} (hb : zmf t d ρ = some ρ') : DGe X tg d ρ ρ' := by
 unfold yhl at h
 split at h
 ·refine x1_2 (zab.mp h) fun i hi h => ?_
  subst h
  simp only [zmf] at hb
  refine x0_2 (zot hb) fun q e => ?_
  subst e
  refine x0_2 (zzc hX hi) fun a1 a2 => ?_
  exact DGe.name (by rw [hX.hN]; exact hX.nd) a1 a2 q
 ·refine x1_2 (zab.mp h) fun l hl h => ?_
  subst h
  cases d <;> first | (simp only [zmf] at hb; cases hb; done) | skip
  simp only [zmf] at hb
  refine x0_3 (zwa hX hl hb) fun g g2 g3 => ?_
  exact DGe.tup hX.calm g g2 g3
 ·cases h
theorem zpf {nt : Nat} {fr : List Nat} {ρ0 : Rho} : ∀ {is : List Nat} {ds : List D} {ρ ρ' : Rho}, (is.all fun i => decide (i < nt)) = true -> zmy is ds ρ = some ρ' -> (∀ (i : Nat) d, (blkR nt fr ρ0)[i]? = some (some d) -> ρ[i]? = some (some d)) -> ∀ (i : Nat) d, (blkR nt fr ρ0)[i]? = some (some d) -> ρ'[i]? = some (some d)
 | [], ds, ρ, ρ', _, hb, h => by
  cases ds with
  | nil => cases hb; exact h
  | cons d ds => cases hb
 | j :: is, ds, ρ, ρ', hj, hb, h => by
  cases ds with
  | nil => cases hb
  | cons d ds =>
   rw [zdk, zaj] at hj
   simp only [zmy] at hb
   refine x1_2 (zaa.mp hb) fun ρ1 h1 hb => ?_
   refine x0_2 (zot h1) fun q e => ?_
   subst e
   refine zpf hj.2 hb fun i d' e => ?_
   refine x2_3 (zoe e) fun m _ e1 _ _ => ?_
   have := of_decide_eq_true hj.1
   rw [zbm (by omega)]
   exact h i d' e
theorem zxk {nt : Nat} {fr : List Nat} {ρ0 : Rho} {t : Tg} {d : D} {ρ' : Rho} (ht : tgOk nt t = true) (hb : zmf t d (blkR nt fr ρ0) = some ρ') : ∀ (i : Nat) d, (blkR nt fr ρ0)[i]? = some (some d) -> ρ'[i]? = some (some d) := by
 cases t with
 | name j =>
  simp only [zmf] at hb
  refine x0_2 (zot hb) fun q e => ?_
  subst e
  intro i d' e
  refine x2_3 (zoe e) fun m _ e1 _ _ => ?_
  have := of_decide_eq_true ht
  rw [zbm (by omega)]
  exact e
 | tup is =>
  cases d <;> first | (simp only [zmf] at hb; cases hb; done) | skip
  simp only [zmf] at hb
  exact zpf ht hb fun i d e => e
noncomputable def ygy (X : Cx) (elt tg iter : Expr) (ifs : List Expr) (scope : Scope) (ρ : Rho) (w : W) : Prop := ∃ (items res : List D) (f : D -> Option (Option D)) (fr : List Nat), w = .new res /\ CompOk X scope (locs scope) (frs' scope) fr /\ DIe X tg iter ρ items /\ (∀ x, foldedSetIterable iter X.env x = pure x) /\ items.length <= sizeLine /\ znp f items = some res /\
 ∀ (X' : Cx), ykv X scope (locs scope ++ frs' scope) X' -> ∀ (d : D) (o : Option D), d ∈ items -> f d = some o -> ∃ ρd, DGe X' tg d (blkR (locs scope).length fr ρ) ρd /\ (∀ (i : Nat) d, (blkR (locs scope).length fr ρ)[i]? = some (some d) -> ρd[i]? = some (some d)) /\
   (match o with | none => DTs X' ifs ρd false | some e => DTs X' ifs ρd true /\ DF X' elt ρd e)
theorem zts {n : Nat} (hX : XE X c Γ) (iF : ∀ {e e' ρ d}, trE n c e = some e' -> (ev Γ e' ρ).map W.d = some d -> DF X e ρ d) (jE : ∀ X' c', XE X' c' Γ -> ∀ e e' ρ w, trE n c' e = some e' -> ev Γ e' ρ = some w -> DE X' e ρ w)
  (jT : ∀ X' c', XE X' c' Γ -> ∀ e e' ρ k, trT n c' e = some e' -> ((ev Γ e' ρ).map W.d).bind znd = some k -> DT X' e ρ k) {elt tg iter : Expr} {ifs : List Expr} {scope : Scope} {e' : E} {ρ : Rho} {w : W}
  (h : (if ybz c scope = true then (trI1 (trE n c) c tg iter).bind fun it => (yhl (blkC c scope) tg).bind fun t => (frIx c.N (frs' scope)).bind fun fr =>
   (trE n (blkC c scope) elt).bind fun e => (ycs (trT n (blkC c scope)) ifs).map fun k => E.comp e t it (locs scope).length fr k else none) = some e') (hv : ev Γ e' ρ = some w) : ygy X elt tg iter ifs scope ρ w := by
 split at h
 case isFalse => cases h
 rename_i hB
 refine x1_2 (zaa.mp h) fun it hit h => ?_
 refine x1_2 (zaa.mp h) fun t ht h => ?_
 refine x1_2 (zaa.mp h) fun fr hfr h => ?_
 refine x1_2 (zaa.mp h) fun e1 he1 h => ?_
 refine x1_2 (zab.mp h) fun k hk h => ?_
 subst h
 simp only [ev] at hv
 refine x1_2 (zaa.mp hv) fun items hi hv => ?_
 split at hv
 case isFalse => cases hv
 rename_i z
 refine x1_2 (zab.mp hv) fun res hres hv => ?_
 subst hv
 refine x0_2 (ymq hX (fun h hv => iF h hv) hit hi) fun d1 d2 => ?_
 refine ⟨_, _, _, _, rfl, ypy hX hB hfr, d1, noSet d2, z.1, hres, fun X' hX' d o hd ho => ?_⟩
 refine x1_2 (zaa.mp ho) fun ρd hb ho => ?_
 refine x1_2 (zaa.mp ho) fun kk hkk ho => ?_
 have hXE := blk_xe hX hB hX'
 have tests : DTs X' ifs ρd kk := by
  revert hk
  cases ifs with
  | nil =>
   intro hk
   simp only [ycs] at hk
   cases hk
   simp only [evc] at hkk
   cases hkk
   exact .inl ⟨rfl, rfl⟩
  | cons c1 rest =>
   cases rest with
   | nil =>
    intro hk
    simp only [ycs] at hk
    refine x1_2 (zab.mp hk) fun c2 hc2 hk => ?_
    subst hk
    simp only [evc] at hkk
    exact .inr ⟨c1, rfl, jT X' _ hXE _ _ _ _ hc2 hkk⟩
   | cons c2 rest =>
    intro hk
    simp only [ycs] at hk
    cases hk
 refine ⟨ρd, yhk hXE ht hb, zxk z.2 hb, ?_⟩
 cases kk with
 | false =>
  rw [if_neg zav] at ho
  cases ho
  exact tests
 | true =>
  rw [if_pos rfl] at ho
  refine x1_2 (zab.mp ho) fun de hde ho => ?_
  subst ho
  refine x1_2 (zyd hde) fun w hw1 hw2 => ?_
  subst hw2
  exact ⟨tests, (jE X' _ hXE _ _ _ _ he1 hw1).df⟩
theorem zrn : ∀ n (X : Cx) (c : TC), XE X c Γ -> (∀ e e' ρ w, trE n c e = some e' -> ev Γ e' ρ = some w -> DE X e ρ w) /\ (∀ es l ρ ds, trEs n c es = some l -> evs Γ l ρ = some ds -> DA X es ρ ds) /\
  (∀ o o' ρ i, trO n c o = some o' -> evo Γ o' ρ = some i -> DO X o ρ i) /\ (∀ e e' ρ k, trT n c e = some e' -> ((ev Γ e' ρ).map W.d).bind znd = some k -> DT X e ρ k) /\
  (∀ op es p e' ρ k, trT n c (.BoolOp op es p) = some e' -> ((ev Γ e' ρ).map W.d).bind znd = some k -> DW X (.BoolOp op es p) ρ k) := by
 intro n
 induction n with
 | zero => exact fun X c hX => ⟨fun e e' ρ w h => by (simp only [trE] at h; cases h), fun e e' ρ w h => by (simp only [trEs] at h; cases h), fun e e' ρ w h => by (simp only [trO] at h; cases h), fun e e' ρ w h => by (simp only [trT] at h; cases h), fun op es p e' ρ w h => by (simp only [trT] at h; cases h)⟩
 | succ n ih0 =>
  intro X c hX
  refine x0_5 (ih0 X c hX) fun iE iEs iO iT iW => ?_
  have iF : ∀ {e e' ρ d}, trE n c e = some e' -> (ev Γ e' ρ).map W.d = some d -> DF X e ρ d := fun {e e' ρ d} h hv => by
   refine x1_2 (zyd hv) fun w h1 h2 => ?_
   subst h2
   exact (iE _ _ _ _ h h1).df
  have iB : ∀ {e e' ρ k}, trE n c e = some e' -> ((ev Γ e' ρ).map W.d).bind znd = some k -> DF X e ρ (.bl k) := fun {e e' ρ k} h hv => by
   refine x1_2 (zaa.mp hv) fun d h1 h2 => ?_
   rw [yby h2] at h1
   exact iF h h1
  have iI : ∀ {e e' ρ k}, trE n c e = some e' -> ((ev Γ e' ρ).map W.d).bind dInt = some k -> DF X e ρ (.int k) := fun {e e' ρ k} h hv => by
   refine x1_2 (zaa.mp hv) fun d h1 h2 => ?_
   rw [zsk h2] at h1
   exact iF h h1
  have hWW : ∀ op es p e' ρ k, trT (n + 1) c (.BoolOp op es p) = some e' -> ((ev Γ e' ρ).map W.d).bind znd = some k -> DW X (.BoolOp op es p) ρ k := by
   intro op es p e' ρ k h hv
   simp only [trT] at h
   change trB _ p es op = some e' at h
   unfold trB at h
   split at h
   ·unfold yms at h
    split at h
    ·exact DW.and1 (iT _ _ _ _ h hv)
    ·refine x1_2 (zaa.mp h) fun a' ha h => ?_
     refine x1_2 (zab.mp h) fun b' hb h => ?_
     subst h
     simp only [ev] at hv
     refine x1_2 (zaa.mp hv) fun d hd0 hv => ?_
     refine x1_2 (zyd hd0) fun w hd1 z => ?_
     subst z
     refine x1_2 (zaa.mp hd1) fun k1 hk hd => ?_
     cases k1 with
     | true =>
      rw [if_pos rfl] at hd
      exact DW.andT (iT _ _ _ _ ha hk) (iW _ _ _ _ _ _ hb (by rw [hd]; exact hv))
     | false =>
      rw [if_neg zav] at hd
      cases hd
      cases hv
      exact DW.andF (iT _ _ _ _ ha hk) zzf
    ·cases h
   ·unfold trOr at h
    split at h
    ·exact DW.or1 (iT _ _ _ _ h hv)
    ·refine x1_2 (zaa.mp h) fun a' ha h => ?_
     refine x1_2 (zab.mp h) fun b' hb h => ?_
     subst h
     simp only [ev] at hv
     refine x1_2 (zaa.mp hv) fun d hd0 hv => ?_
     refine x1_2 (zyd hd0) fun w hd1 z => ?_
     subst z
     refine x1_2 (zaa.mp hd1) fun k1 hk hd => ?_
     cases k1 with
     | true =>
      rw [if_pos rfl] at hd
      cases hd
      cases hv
      exact DW.orT (iT _ _ _ _ ha hk) zzf
     | false =>
      rw [if_neg zav] at hd
      exact DW.orF (iT _ _ _ _ ha hk) (iW _ _ _ _ _ _ hb (by rw [hd]; exact hv))
    ·cases h
  refine ⟨fun e e' ρ w h hv => ?_, fun es l ρ ds h hv => ?_, fun o o' ρ i h hv => ?_, fun e e' ρ k h hv => ?_, hWW⟩
  ·simp only [trE] at h
   cases e with
   | Name id0 pos0 =>
    change (slot c id0).map E.var = some e' at h
    refine x1_2 (zab.mp h) fun i h1 h2 => ?_
    subst h2
    simp only [ev] at hv
    refine x1_2 (zab.mp hv) fun d h3 h4 => ?_
    subst h4
    refine x0_4 (zlo hX h1) fun a1 a2 a3 a4 => ?_
    exact (DF.var a1 (Loc.vis a2) a3 a4 (zrh h3)).de
   | Constant v0 k0 pos0 =>
    change trK v0 = some e' at h
    unfold trK at h
    split at h
    ·cases h; simp only [ev] at hv; cases hv; exact DF.cint.de
    ·cases h; simp only [ev] at hv; cases hv; exact DF.cbl.de
    ·cases h; simp only [ev] at hv; cases hv; exact DF.cnon.de
    ·cases h
   | BinOp l0 op0 r0 pos0 =>
    change ((trOp op0).bind fun o => (trE n c l0).bind fun a' => (trE n c r0).map fun b' => E.bin o a' b') = some e' at h
    refine x1_2 (zaa.mp h) fun o ho h => ?_
    refine x1_2 (zaa.mp h) fun a' ha h => ?_
    refine x1_2 (zab.mp h) fun b' hb h => ?_
    subst h
    simp only [ev] at hv
    refine x1_2 (zaa.mp hv) fun x hx hv => ?_
    refine x1_2 (zaa.mp hv) fun y hy hv => ?_
    exact op_ok ho (iF ha hx) (iF hb hy) hv
   | UnaryOp op0 a0 pos0 =>
    change trU (trE n c) a0 op0 = some e' at h
    unfold trU at h
    split at h
    ·-- USub
     refine x1_2 (zab.mp h) fun a' ha h => ?_
     subst h
     simp only [ev] at hv
     refine x1_2 (zab.mp hv) fun i hi hv => ?_
     subst hv
     exact DE.neg (iI ha hi)
    ·-- Not
     refine x1_2 (zab.mp h) fun a' ha h => ?_
     subst h
     simp only [ev] at hv
     refine x1_2 (zab.mp hv) fun i hi hv => ?_
     subst hv
     exact DE.not (iB ha hi)
    ·cases h
   | BoolOp op0 es0 pos0 =>
    change trB (trE n c) pos0 es0 op0 = some e' at h
    unfold trB at h
    split at h
    ·unfold yms at h
     split at h
     ·exact DE.one (iE _ _ _ _ h hv)
     ·-- And
      refine x1_2 (zaa.mp h) fun a' ha h => ?_
      refine x1_2 (zab.mp h) fun b' hb h => ?_
      subst h
      simp only [ev] at hv
      refine x1_2 (zaa.mp hv) fun k hk hv => ?_
      cases k with
      | true =>
       rw [if_pos rfl] at hv
       exact DE.andT (iB ha hk) (iE _ _ _ _ hb hv)
      | false =>
       rw [if_neg zav] at hv
       cases hv
       exact DE.andF (iB ha hk)
     ·cases h
    ·unfold trOr at h
     split at h
     ·exact DE.one (iE _ _ _ _ h hv)
     ·-- Or
      refine x1_2 (zaa.mp h) fun a' ha h => ?_
      refine x1_2 (zab.mp h) fun b' hb h => ?_
      subst h
      simp only [ev] at hv
      refine x1_2 (zaa.mp hv) fun k hk hv => ?_
      cases k with
      | true =>
       rw [if_pos rfl] at hv
       cases hv
       exact DE.orT (iB ha hk)
      | false =>
       rw [if_neg zav] at hv
       exact DE.orF (iB ha hk) (iE _ _ _ _ hb hv)
     ·cases h
   | Compare a0 ops0 bs0 pos0 =>
    change trCp (trE n c) a0 ops0 bs0 = some e' at h
    unfold trCp at h
    split at h
    ·-- Compare
     split at h
     case isFalse => cases h
     rename_i hmk
     refine x1_2 (zaa.mp h) fun o ho h => ?_
     refine x1_2 (zaa.mp h) fun a' ha h => ?_
     refine x1_2 (zab.mp h) fun b' hb h => ?_
     subst h
     simp only [ev] at hv
     refine x1_2 (zaa.mp hv) fun x hx hv => ?_
     refine x1_2 (zaa.mp hv) fun y hy hv => ?_
     refine x1_2 (zab.mp hv) fun k hk hv => ?_
     subst hv
     exact DE.cmp (ymc hX.un ho hk) (iF ha hx) (iF hb hy) hmk
    ·cases h
   | Tuple es0 k0 pos0 =>
    change (trEs n c es0).map E.tup = some e' at h
    refine x1_2 (zab.mp h) fun l hl h => ?_
    subst h
    simp only [ev] at hv
    refine x1_2 (zaa.mp hv) fun ds hd hv => ?_
    by_cases q : ds.length <= sizeLine
    ·rw [if_pos q] at hv; cases hv
     exact DE.tup (iEs _ _ _ _ hl hd) q
    ·rw [if_neg q] at hv; cases hv
   | List es0 pos0 =>
    change (trEs n c es0).map E.lst = some e' at h
    refine x1_2 (zab.mp h) fun l hl h => ?_
    subst h
    simp only [ev] at hv
    refine x1_2 (zaa.mp hv) fun ds hd hv => ?_
    by_cases q : ds.length <= sizeLine
    ·rw [if_pos q] at hv; cases hv
     exact DE.lst (iEs _ _ _ _ hl hd) q
    ·rw [if_neg q] at hv; cases hv
   | ListComp elt0 gs0 scope0 pos0 =>
    change trLC (trE n) (trT n) (trE n c) c elt0 scope0 gs0 = some e' at h
    unfold trLC at h
    split at h
    ·-- a comprehension
     refine x4_7 (zts hX (fun h hv => iF h hv) (fun X' c' h => (ih0 X' c' h).1) (fun X' c' h => (ih0 X' c' h).2.2.2.1) h hv) fun items res f fr e1 hC hI hS hz hr hb => ?_
     subst e1
     exact DE.comp hX.calm hC hI hS hz hr hb
    ·cases h
   | Subscript a0 b0 pos0 =>
    change trSb (trE n c) (trO n c) a0 b0 = some e' at h
    unfold trSb at h
    split at h
    ·-- a slice
     refine x1_2 (zaa.mp h) fun a' ha h => ?_
     refine x1_2 (zaa.mp h) fun l' hl h => ?_
     refine x1_2 (zab.mp h) fun h' hh h => ?_
     subst h
     simp only [ev] at hv
     refine x1_2 (zaa.mp hv) fun x hx hv => ?_
     refine x1_2 (zaa.mp hv) fun i hi hv => ?_
     refine x1_2 (zaa.mp hv) fun j hj hv => ?_
     cases x <;> first | (cases hv; done) | skip
     cases hv
     exact DE.slL (iF ha hx) (iO _ _ _ _ hl hi) (iO _ _ _ _ hh hj)
    ·-- a subscript
     split at h
     ·rename_i hs
      refine x1_2 (zaa.mp h) fun a' ha h => ?_
      refine x1_2 (zab.mp h) fun b' hb h => ?_
      subst h
      simp only [ev] at hv
      refine x1_2 (zaa.mp hv) fun x hx hv => ?_
      refine x1_2 (zaa.mp hv) fun y hy hv => ?_
      refine x1_2 (zab.mp hv) fun d hd hv => ?_
      subst hv
      unfold ixD at hd
      split at hd
      ·exact DE.ixT (iF ha hx) (iF hb hy) hs hd
      ·exact DE.ixL (iF ha hx) (iF hb hy) hs hd
      ·cases hd
     ·cases h
   | Call func0 args0 kws0 pos0 =>
    cases func0 <;> first | (cases h; done) | skip
    cases args0 <;> first | (cases h; done) | skip
    cases kws0 <;> first | (cases h; done) | skip
    rename_i x p e es
    change yct (trE n c) (trEs n c) c x e es = some e' at h
    unfold yct at h
    split at h
    ·rename_i q hq
     split at h
     ·rename_i hk
      refine x1_2 (zaa.mp h) fun a' ha h => ?_
      refine x1_2 (zab.mp h) fun l hl h => ?_
      subst h
      simp only [ev] at hv
      refine x1_2 (zaa.mp hv) fun w1 hw1 hv => ?_
      refine x1_2 (zaa.mp hv) fun ds hd hv => ?_
      refine x2_3 (ownW_s hv) fun l0 d e1 e2 hv2 => ?_
      subst e1; subst e2
      refine x0_3 (yob hX hq) fun g0 g1 g2 => ?_
      refine DE.callO (hX.rzo _ _ _ g0) g1 g2 (iE _ _ _ _ ha hw1) (iEs _ _ _ _ hl hd) ?_ hv2 hk.2 (znq hl)
      rw [yfl hl hd]
      exact hk.1
     ·cases h
    split at h
    ·rename_i f as hf
     refine x1_2 (zab.mp h) fun l hl h => ?_
     subst h
     simp only [ev] at hv
     refine x1_2 (zaa.mp hv) fun ds hd hv => ?_
     exact fm_ok hX hf (znq hl) (iEs _ _ _ _ hl hd) hv
    split at h
    ·rename_i f k hh
     split at h
     ·rename_i hk
      refine x1_2 (zab.mp h) fun l hl h => ?_
      subst h
      simp only [ev] at hv
      refine x1_2 (zaa.mp hv) fun ds hd hv => ?_
      refine x0_3 (yez hX hh) fun hf g1 g2 => ?_
      have hst := znq hl
      rw [zdk, zaj] at hst
      exact DE.call (hX.calls _ _ _ hf) g1 g2 (iEs _ _ _ _ hl hd) ((yfl hl hd).trans hk) hv hst.1 hst.2
     ·cases h
    ·rename_i b hh
     refine x1_2 (zab.mp h) fun l hl h => ?_
     subst h
     simp only [ev] at hv
     refine x1_2 (zaa.mp hv) fun ds hd hv => ?_
     refine x0_3 (yfa hX hh) fun e1 g1 g2 => ?_
     have hst := znq hl
     rw [zdk, zaj] at hst
     subst e1
     exact DE.blt (bi_ok hX.calm hv) g1 (hX.blt _ (ygh b).2) (yql b) (ygh b).1 g2 (iEs _ _ _ _ hl hd) hst.1 hst.2
    ·rename_i hh
     refine x0_2 (ybq hX hh) fun ex hs1 => ?_
     subst ex
     split at h
     ·rename_i y p2
      split at h
      ·rename_i hgy
       refine x0_2 (zoo hX hgy.1) fun g3 g4 => ?_
       split at h
       ·rename_i t ht
        refine x1_2 (zab.mp h) fun e' he h => ?_
        subst h
        simp only [ev] at hv
        refine x1_2 (zaa.mp hv) fun d hd hv => ?_
        refine x1_2 (zab.mp hv) fun k hk hv => ?_
        subst hv
        have e1 := ycp ht
        subst e1
        have e2 : k = isTy t d := by
         unfold ybo at hk
         split at hk
         ·cases hk
         ·cases hk; rfl
        subst e2
        exact DE.isi hk (iF he hd) hgy.2 hs1 (hX.blt _ (by decide +kernel)) rfl g3 (hX.blt _ (ymm t))
       ·cases h
      ·cases h
     ·cases h
    ·rename_i hh
     refine x0_2 (ybp hX hh) fun ex hs1 => ?_
     subst ex
     split at h
     ·split at h
      ·rename_i hst
       refine x1_2 (zab.mp h) fun e' he h => ?_
       subst h
       simp only [ev] at hv
       refine x1_2 (zaa.mp hv) fun d hd hv => ?_
       cases d <;> first | (cases hv; done) | skip
       ·cases hv
        exact DE.ty ygc hs1 (hX.blt _ (by decide +kernel)) (by decide +kernel) (by decide) (by decide) (DA.cons (iF he hd) DA.nil hst) hst rfl
       ·cases hv
        exact DE.ty ykg hs1 (hX.blt _ (by decide +kernel)) (by decide +kernel) (by decide) (by decide) (DA.cons (iF he hd) DA.nil hst) hst rfl
      ·cases h
     ·cases h
    ·cases h
   | _ => cases h
  ·cases es with
   | nil =>
    simp only [trEs] at h
    cases h
    simp only [evs] at hv
    cases hv
    exact DA.nil
   | cons e es =>
    simp only [trEs] at h
    by_cases q : zki e = true
    ·rw [if_pos q] at h
     refine x1_2 (zaa.mp h) fun e' he h => ?_
     refine x1_2 (zab.mp h) fun l' h3 z => ?_
     subst z
     simp only [evs] at hv
     refine x1_2 (zaa.mp hv) fun d hd hv => ?_
     refine x1_2 (zab.mp hv) fun ds' hv3 z => ?_
     subst z
     exact DA.cons (iF he hd) (iEs _ _ _ _ h3 hv3) q
    ·rw [if_neg q] at h; cases h
  ·cases o with
   | none =>
    simp only [trO] at h
    cases h
    simp only [evo] at hv
    cases hv
    exact DO.none
   | some e =>
    simp only [trO] at h
    refine x1_2 (zab.mp h) fun e' he h => ?_
    subst h
    simp only [evo] at hv
    refine x1_2 (zab.mp hv) fun i hi hv => ?_
    subst hv
    exact DO.some (iI he hi)
  ·have h0 := h
   simp only [trT] at h
   unfold trT1 at h
   split at h
   ·unfold trN at h
    split at h
    ·refine x1_2 (zab.mp h) fun a' ha h => ?_
     subst h
     simp only [ev] at hv
     refine x1_2 (zaa.mp hv) fun d hd0 hv => ?_
     refine x1_2 (zyd hd0) fun w hd1 z => ?_
     subst z
     refine x1_2 (zab.mp hd1) fun k1 hk hd => ?_
     subst hd
     cases hv
     exact DT.not (iT _ _ _ _ ha hk)
    ·cases h
   ·exact (hWW _ _ _ _ _ _ h0 hv).dt
   ·unfold trCp at h
    split at h
    ·split at h
     case isFalse => cases h
     rename_i hmk
     refine x1_2 (zaa.mp h) fun o ho h => ?_
     refine x1_2 (zaa.mp h) fun a' ha h => ?_
     refine x1_2 (zab.mp h) fun b' hb h => ?_
     subst h
     simp only [ev] at hv
     refine x1_2 (zaa.mp hv) fun d hd0 hv => ?_
     refine x1_2 (zyd hd0) fun w hd1 z => ?_
     subst z
     refine x1_2 (zaa.mp hd1) fun x hx hd2 => ?_
     refine x1_2 (zaa.mp hd2) fun y hy hd3 => ?_
     refine x1_2 (zab.mp hd3) fun k1 hk hd => ?_
     subst hd
     cases hv
     exact DT.cmp (ymc hX.un ho hk) (iF ha hx) (iF hb hy) hmk
    ·cases h
   ·split at h
    ·rename_i hp
     exact DT.val (iB h hv) (zwm hp)
    ·cases h
theorem ztx (hX : XE X c Γ) (n : Nat) : (∀ e e' ρ w, trE n c e = some e' -> ev Γ e' ρ = some w -> DE X e ρ w) /\ (∀ es l ρ ds, trEs n c es = some l -> evs Γ l ρ = some ds -> DA X es ρ ds) /\
  (∀ o o' ρ i, trO n c o = some o' -> evo Γ o' ρ = some i -> DO X o ρ i) := ⟨(zrn n X c hX).1, (zrn n X c hX).2.1, (zrn n X c hX).2.2.1⟩
theorem ycr (hX : XE X c Γ) (n : Nat) : (∀ e e' ρ k, trT n c e = some e' -> ((ev Γ e' ρ).map W.d).bind znd = some k -> DT X e ρ k) /\
  (∀ op es p e' ρ k, trT n c (.BoolOp op es p) = some e' -> ((ev Γ e' ρ).map W.d).bind znd = some k -> DW X (.BoolOp op es p) ρ k) := ⟨(zrn n X c hX).2.2.2.1, (zrn n X c hX).2.2.2.2⟩
end
end DL
namespace DL
open PySem L2 PyProof.Rows
noncomputable def zxc : Expr -> Bool
 | .ListComp _ _ _ _ => true
 | .SetComp _ _ _ _ => true
 | .DictComp _ _ _ _ _ => true
 | _ => false
theorem yee {e t : Expr} {line : Nat} {env : Env} (h : zxc e = false) : swapsWith e (some t) line env = pure false := by
 cases e <;> first | rfl | (cases h; done)
theorem yip {e : Expr} {ts : List Expr} {k : Nat} {p : Pos} {env : Env} (h : isTup e = false) : swappedStores [.Tuple ts k p] e env = pure none := by
 cases e <;> first | (cases h; done) | rfl
theorem yef {e a k : Expr} {p : Pos} {env : Env} : swappedStores [.Subscript a k p] e env = pure none := by
 cases e <;> rfl
theorem yon {e t : Expr} {line : Nat} {env : Env} (h : zxc e = false) : swapsWithSole [t] e line env = pure false := by
 unfold swapsWithSole
 exact yee h
noncomputable def swC (sc : Scope) (x : Str) (px pos : Pos) (scope : Scope) : Bool := decide (sc.names.lookup x = some NameKind.local) && (px.line == pos.line) && !(scope.names.any fun (n, k) => n == x && (k == NameKind.local || k == NameKind.cell))
theorem yla {x : Str} {px pos : Pos} {elt : Expr} {gs : List Comprehension} {scope : Scope} {line : Nat} {env : Env} (hk : env.scope.kind = .function) : swapsWith (.ListComp elt gs scope pos) (some (.Name x px)) line env = pure (swC env.scope x px pos scope) := by
 have hbk : env.blockKind = .function := by unfold Env.blockKind; rw [hk]; rfl
 have e1 : (env.kindOf x == some NameKind.local) = decide (env.scope.names.lookup x = some NameKind.local) := by
  unfold Env.kindOf
  by_cases q : env.scope.names.lookup x = some NameKind.local
  ·rw [q]; rfl
  ·rw [decide_eq_false q]
   cases z : env.scope.names.lookup x with
   | none => rfl
   | some k => cases k <;> first | rfl | (exact absurd z q)
 show pure _ = pure _
 rw [hbk]
 unfold swC
 rw [<- e1]
 rfl
theorem ymw {x y : Str} {a b : Expr} {px py pt p2 : Pos} {kt k2 : Nat} {env : Env} (hk : env.scope.kind = .function) (hx : env.scope.names.lookup x = some .local) (hy : env.scope.names.lookup y = some .local) (hl : (px.line == py.line) = true) (hxy : x ≠ y)
  (ha : zki a = true) (hb : zki b = true) (h1 : ([a, b].all (foldedForSure 8)) = false) (h2 : ([a, b].all (constantsAlone 8)) = false) :
  swappedStores [.Tuple [.Name x px, .Name y py] kt pt] (.Tuple [a, b] k2 p2) env = pure (some [x, y]) := by
 have hbk : env.blockKind = .function := by unfold Env.blockKind; rw [hk]; rfl
 have kx : (env.kindOf x == some NameKind.local) = true := by unfold Env.kindOf; rw [hx]; rfl
 have ky : (env.kindOf y == some NameKind.local) = true := by unfold Env.kindOf; rw [hy]; rfl
 have e1 : (y == x) = false := by
  cases q : (y == x) with
  | false => rfl
  | true => exact absurd (eq_of_beq q).symm hxy
 have k1 : env.kindOf x = some NameKind.local := hx
 have k2 : env.kindOf y = some NameKind.local := hy
 have l1 : py.line = px.line := (eq_of_beq hl).symm
 have p1 : (Expr.Name x px).pos = px := rfl
 unfold swappedStores
 simp only [zah, zbq, hbk, h1, h2]
 simp [List.eraseDups, List.eraseDupsBy, List.eraseDupsBy.loop, e1, hxy, zda hxy]
 rw [if_neg (by
  rintro (h | h)
  ·revert ha h; cases a <;> simp [zki]
  ·revert hb h; cases b <;> simp [zki])]
 simp [zew, k1, k2, l1, p1, List.eraseDups, List.eraseDupsBy, List.eraseDupsBy.loop, e1, hxy, zda hxy]
end DL
namespace DL
open PySem L2 PyProof.Rows
noncomputable def slots (c : TC) : List Expr -> Option (List Nat)
 | [] => some []
 | .Name x _ :: es => (slot c x).bind fun i => (slots c es).map fun l => i :: l
 | _ => none
noncomputable def trTg (c : TC) : Expr -> Option Tg
 | .Name x _ => (slot c x).map Tg.name
 | .Tuple es _ _ => (slots c es).map Tg.tup
 | _ => none
noncomputable def ycw (n : Nat) (c : TC) (x : Str) : Expr -> Option S
 | .ListComp elt gs scope pos => if c.sc.kind = .function then (slot c x).bind fun i => (trE n c (.ListComp elt gs scope pos)).map (S.asg i) else none
 | e => if zxc e = false then (slot c x).bind fun i => (trE n c e).map (S.asg i) else none
noncomputable def ycv (n : Nat) (c : TC) : List Expr -> Expr -> Option S
 | [.Name x px, .Name y py], .Tuple [a, b] _ _ =>
  if (px.line == py.line) = true /\ x ≠ y /\ zki a = true /\ zki b = true /\ ([a, b].all (foldedForSure 8)) = false /\ ([a, b].all (constantsAlone 8)) = false /\ c.sc.names.lookup x = some .local /\ c.sc.names.lookup y = some .local then
   (slot c x).bind fun i => (slot c y).bind fun j => (trE n c a).bind fun a' => (trE n c b).map fun b' => S.par i j a' b'
  else none
 | ts, e => if zxc e = false /\ isTup e = false then (slots c ts).bind fun is => (trE n c e).map (S.unp is) else none
noncomputable def ymr (n : Nat) (c : TC) (e : Expr) : Expr -> Option S
 | .Name x _ => ycw n c x e
 | .Subscript (.Name x _) k _ => if zxc e = false /\ znz k = true then (slot c x).bind fun i => (trE n c k).bind fun k' => (trE n c e).map (S.seti i k') else none
 | .Tuple ts _ _ => ycv n c ts e
 | _ => some .never
noncomputable def ymp (n : Nat) (c : TC) : Expr -> Option S
 | .Name x _ => (slot c x).map S.retV
 | e => (trE n c e).map S.ret
noncomputable def vN : Expr -> Option Str
 | .Name x _ => some x
 | _ => none
theorem vN_s {s : Expr} {x : Str} (h : vN s = some x) : ∃ p, s = .Name x p := by
 unfold vN at h
 split at h
 ·cases h; exact ⟨_, rfl⟩
 ·cases h
noncomputable def vCl : Expr -> Option (Expr × List Expr × Pos)
 | .Call f es [] p => some (f, es, p)
 | _ => none
noncomputable def vAt : Expr -> Option (Expr × Str × Pos)
 | .Attribute a m p => some (a, m, p)
 | _ => none
noncomputable def xV (e : Expr) : Option (Str × Str × Pos × List Expr × Pos) := (vCl e).bind fun p => (vAt p.1).bind fun q => (vN q.1).map fun x => (x, q.2.1, q.2.2, p.2)
theorem vCl_s {s : Expr} {e : Expr × List Expr × Pos} (h : vCl s = some e) : s = .Call e.1 e.2.1 [] e.2.2 := by
 unfold vCl at h
 split at h
 ·cases h; rfl
 ·cases h
theorem vAt_s {s : Expr} {e : Expr × Str × Pos} (h : vAt s = some e) : s = .Attribute e.1 e.2.1 e.2.2 := by
 unfold vAt at h
 split at h
 ·cases h; rfl
 ·cases h
theorem xV_s {e : Expr} {x m : Str} {ap cp : Pos} {es : List Expr} (h : xV e = some (x, m, ap, es, cp)) : ∃ p, e = .Call (.Attribute (.Name x p) m ap) es [] cp := by
 unfold xV at h
 obtain ⟨⟨f, l, z⟩, h1, h⟩ := zaa.mp h
 obtain ⟨⟨a, m0, ap0⟩, h2, h⟩ := zaa.mp h
 refine x1_2 (zab.mp h) fun y h3 h => ?_
 cases h
 refine x1_1 (vN_s h3) fun p h3 => ?_
 have h1 := vCl_s h1
 have h2 := vAt_s h2
 dsimp only at h1 h2 h3
 exact ⟨p, by rw [h1, h2, h3]⟩
noncomputable def trX2 (n : Nat) (c : TC) (x m : Str) (ap cp : Pos) : List Expr -> Option S
 | [e] => if m = ("append" : Str) /\ (ap.endLine == cp.line) = true /\ zki e = true then (slot c x).bind fun i => (trE n c e).map (S.app i) else some .never
 | [] => if (ap.endLine == cp.line) = true then (if m = ("pop" : Str) then (slot c x).map S.pop else if m = ("clear" : Str) then (slot c x).map S.clr else some .never) else some .never
 | _ => some .never
noncomputable def trX (n : Nat) (c : TC) (e : Expr) : Option S := match xV e with
 | some p => trX2 n c p.1 p.2.1 p.2.2.1 p.2.2.2.2 p.2.2.2.1
 | none => some .never
noncomputable def trS1 (n : Nat) (rSs : List Stmt -> Option Ss) (c : TC) : Stmt -> Option S
 | .Assign [t] e _ => ymr n c e t
 | .Return (some e) _ => ymp n c e
 | .If t a b _ => (trT n c t).bind fun t' => (rSs a).bind fun a' => (rSs b).map fun b' => S.iff t' a' b'
 | .While t b [] _ => (trT n c t).bind fun t' => (rSs b).map fun b' => S.whl t' b'
 | .For tg it b [] _ => (trTg c tg).bind fun g => (trI1 (trE n c) c tg it).bind fun i => (rSs b).map fun b' => S.frr g i b'
 | .Expr e _ => trX n c e
 | _ => some .never
mutual
noncomputable def trS : Nat -> TC -> Stmt -> Option S
 | 0, _, _ => none
 | n + 1, c, s => trS1 n (trSs n c) c s
noncomputable def trSs : Nat -> TC -> List Stmt -> Option Ss
 | 0, _, _ => none
 | n + 1, c, [] => some .nil
 | n + 1, c, s :: l => (trS n c s).bind fun s' => (trSs n c l).map fun l' => .cons s' l'
end
section
variable {X : Cx} {c : TC} {Γ : Nat -> List D -> Option W}
theorem yjh (hX : XC X c Γ) {n : Nat} {e : Expr} {e' : E} {ρ : Rho} {d : D} (h : trE n c e = some e') (hv : (ev Γ e' ρ).map W.d = some d) : DF X e ρ d := by
 refine x1_2 (zyd hv) fun w h1 h2 => ?_
 subst h2
 exact ((ztx hX.toXE n).1 _ _ _ _ h h1).df
theorem yjg (hX : XC X c Γ) {n : Nat} {e : Expr} {e' : E} {ρ : Rho} {k : Int} (h : trE n c e = some e') (hv : ((ev Γ e' ρ).map W.d).bind dInt = some k) : DF X e ρ (.int k) := by
 refine x1_2 (zaa.mp hv) fun d h1 h2 => ?_
 rw [zsk h2] at h1
 exact yjh hX h h1
theorem zos {ρ ρ' : RhoS} {i : Nat} {b : B} (h : setR ρ i b = some ρ') : i < ρ.length /\ ρ' = ρ.set i (some b) := by
 unfold setR at h
 by_cases q : i < ρ.length
 ·rw [if_pos q] at h; cases h; exact ⟨q, rfl⟩
 ·rw [if_neg q] at h; cases h
theorem zza (hX : XC X c Γ) : ∀ {ts : List Expr} {is : List Nat} {ds : List D} {ρ ρ' : RhoS}, slots c ts = some is -> zop is ds ρ = some ρ' -> DGs X ts ds ρ ρ' /\ ts.all zki = true /\ ds.length = ts.length
 | [], is, ds, ρ, ρ', h, hb => by
  simp only [slots] at h
  cases h
  cases ds with
  | nil => cases hb; exact ⟨DGs.nil, rfl, rfl⟩
  | cons d ds => cases hb
 | t :: ts, is, ds, ρ, ρ', h, hb => by
  unfold slots at h
  split at h
  ·rename_i z; cases z
  ·rename_i x p es z
   cases z
   refine x1_2 (zaa.mp h) fun i hi h => ?_
   refine x1_2 (zab.mp h) fun l hl h => ?_
   subst h
   cases ds with
   | nil => cases hb
   | cons d ds =>
    simp only [zop] at hb
    refine x1_2 (zaa.mp hb) fun ρ1 h1 hb => ?_
    refine x0_2 (zos h1) fun q e => ?_
    subst e
    refine x0_3 (zza hX hl hb) fun g g2 g3 => ?_
    refine x0_4 (zlo hX.toXE hi) fun a1 a2 a3 a4 => ?_
    refine ⟨DGs.cons (DG.name (by rw [hX.hN]; exact hX.nd) a1 a2 (.inl (hX.fn _)) q) g rfl, by rw [zdk, g2]; rfl, by rw [zah, zah, g3]⟩
  ·cases h
theorem ycq (hX : XC X c Γ) {tg : Expr} {t : Tg} (h : trTg c tg = some t) {d : D} {ρ ρ' : RhoS} (hb : zle t d ρ = some ρ') : DG X tg d ρ ρ' := by
 unfold trTg at h
 split at h
 ·refine x1_2 (zab.mp h) fun i hi h => ?_
  subst h
  simp only [zle] at hb
  refine x0_2 (zos hb) fun q e => ?_
  subst e
  refine x0_4 (zlo hX.toXE hi) fun a1 a2 a3 a4 => ?_
  exact DG.name (by rw [hX.hN]; exact hX.nd) a1 a2 (.inl (hX.fn _)) q
 ·refine x1_2 (zab.mp h) fun l hl h => ?_
  subst h
  cases d <;> first | (simp only [zle] at hb; cases hb; done) | skip
  ·simp only [zle] at hb
   refine x0_3 (zza hX hl hb) fun g g2 g3 => ?_
   exact DG.tup hX.calm g g2 g3
 ·cases h
theorem DI.listV {tg : Expr} {i : Nat} {x : Str} {p : Pos} {l : List D} {ρ : RhoS} (hN : X.N[i]? = some x) (hv : Vis X.env.scope x) (hd : (x == ("__debug__" : Str)) = false) (hcd : (x == ("__classdict__" : Str)) = false) (hr : ρ[i]? = some (some (.sh (.lst l)))) : DI X tg (.Name x p) ρ l ρ := fun H0 Fc => PI.mono (zya (zpz hN hv hd hcd)) fun σ H R hz => x1_2 hz fun F S k => by
 refine x1_2 (S.env i _ hr) fun v e0 q3 => ?_
 refine x2_3 (q3.lst) fun a xs e1 sq r => ?_
 refine ⟨v, e0, a, e1, ⟨xs, S.sub.seq sq⟩, k _ H F (Same.refl _) S fun i H' sH => ⟨fun d hd => ?_, fun hle => ⟨xs, sH.seq sq, by rw [r.length]; exact hle⟩⟩⟩
 refine x1_2 (r.get hd) fun y h1 h2 => ?_
 refine ⟨⟨xs, y, sH.seq sq, h1⟩, fun x H'' hz => x0_2 hz fun ey yy => ?_⟩
 have := yy xs (sH.seq sq)
 rw [h1] at this
 cases this
 exact .inl ⟨ey, h2⟩
theorem DI.tupV {tg : Expr} {i : Nat} {x : Str} {p : Pos} {l : List D} {ρ : RhoS} (hN : X.N[i]? = some x) (hv : Vis X.env.scope x) (hd : (x == ("__debug__" : Str)) = false) (hcd : (x == ("__classdict__" : Str)) = false) (hr : ρ[i]? = some (some (.sh (.tup l)))) : DI X tg (.Name x p) ρ l ρ := fun H0 Fc => PI.mono (ydv (zpz hN hv hd hcd)) fun σ H R hz => x1_2 hz fun F S k => by
 refine x1_2 (S.env i _ hr) fun v e0 q3 => ?_
 refine x2_3 (q3.tup) fun a xs e1 sq r => ?_
 refine ⟨v, e0, a, e1, ⟨xs, Same.tup S.sub sq⟩, k _ H F (Same.refl _) S fun i H' sH => ⟨fun d hd => ?_, fun hle => ⟨xs, Same.tup sH sq, by rw [r.length]; exact hle⟩⟩⟩
 refine x1_2 (r.get hd) fun y h1 h2 => ?_
 refine ⟨⟨xs, y, Same.tup sH sq, h1⟩, fun x H'' hz => x0_2 hz fun ey yy => ?_⟩
 have := yy xs (Same.tup sH sq)
 rw [h1] at this
 cases this
 exact .inl ⟨ey, h2⟩
theorem ydg (hX : XC X c Γ) {n : Nat} {tg e : Expr} {e' : E} {ρ ρ' : RhoS} {l : List D} (h : trE n c e = some e') (hv : evI Γ (.seq e') ρ = some (l, ρ')) : DI X tg e ρ l ρ' := by
 simp only [evI] at hv
 refine x1_2 (zaa.mp hv) fun w hw hv => ?_
 split at hv
 ·rename_i l' hl
  cases hv
  exact DI.list ((ztx hX.toXE n).1 _ _ _ _ h hw) hl
 ·rename_i l' hl
  cases hv
  exact DI.tup ((ztx hX.toXE n).1 _ _ _ _ h hw) hl
 ·cases hv
theorem trI_ok (hX : XC X c Γ) {n : Nat} {tg e : Expr} {i : It'} {ρ ρ' : RhoS} {l : List D} (h : trI1 (trE n c) c tg e = some i) (hv : evI Γ i ρ = some (l, ρ')) : DI X tg e ρ l ρ' /\ yjf e = false := by
 unfold trI1 at h
 split at h
 ·refine ⟨?_, rfl⟩
  split at h
  ·rename_i q
   refine x1_2 (zab.mp h) fun a' ha h => ?_
   subst h
   simp only [evI] at hv
   refine x1_2 (zaa.mp hv) fun m hm hv => ?_
   split at hv
   ·rename_i z
    cases hv
    refine x0_2 (zqb hX.toXE q.1) fun g1 g2 => ?_
    subst g2
    exact DI.range1 g1 (hX.blt _ (by decide +kernel)) (DA.cons (yjg hX ha hm) DA.nil q.2) q.2 z.1 z.2
   ·cases hv
  ·refine x1_2 (zab.mp h) fun e' he h => ?_
   subst h
   exact ydg hX he hv
 ·refine ⟨?_, rfl⟩
  split at h
  ·rename_i q
   refine x1_2 (zaa.mp h) fun a' ha h => ?_
   refine x1_2 (zab.mp h) fun b' hb h => ?_
   subst h
   simp only [evI] at hv
   refine x1_2 (zaa.mp hv) fun m hm hv => ?_
   refine x1_2 (zaa.mp hv) fun m2 hm2 hv => ?_
   split at hv
   ·rename_i z
    cases hv
    refine x0_2 (zqb hX.toXE q.1) fun g1 g2 => ?_
    subst g2
    exact DI.range2 g1 (hX.blt _ (by decide +kernel)) (DA.cons (yjg hX ha hm) (DA.cons (yjg hX hb hm2) DA.nil q.2.2) q.2.1) q.2.1 q.2.2 z
   ·cases hv
  ·refine x1_2 (zab.mp h) fun e' he h => ?_
   subst h
   exact ydg hX he hv
 ·refine x1_2 (zab.mp h) fun i hi h => ?_
  subst h
  simp only [evI] at hv
  refine x0_4 (zlo hX.toXE hi) fun a1 a2 a3 a4 => ?_
  refine ⟨?_, rfl⟩
  unfold seqB at hv
  split at hv
  ·rename_i hr
   cases hv
   exact DI.listV a1 (Loc.vis a2) a3 a4 hr
  ·rename_i hr
   cases hv
   exact DI.tupV a1 (Loc.vis a2) a3 a4 hr
  ·rename_i hr
   cases hv
   exact DI.list (w := .val (.lst l)) (DF.de (DF.var a1 (Loc.vis a2) a3 a4 (by unfold view; rw [zak, hr]; rfl))) rfl
  ·cases hv
 ·split at h
  ·rename_i q
   refine x1_2 (zab.mp h) fun e' he h => ?_
   subst h
   exact ⟨ydg hX he hv, q⟩
  ·cases h
theorem zmi {s : Stmt} {s' : S} {ρ : RhoS} {o : Out} (h : some S.never = some s') (hv : ex Γ s' ρ = some o) : DS X s ρ o := by
 cases h
 simp only [ex] at hv
 cases hv
theorem yqv (hX : XC X c Γ) {n : Nat} {x : Str} {px spos : Pos} {e : Expr} {s' : S} {ρ : RhoS} {o : Out} (h : ycw n c x e = some s') (hv : ex Γ s' ρ = some o) : DS X (.Assign [.Name x px] e spos) ρ o := by
 unfold ycw at h
 split at h
 ·rename_i elt gs scope pos
  split at h
  case isFalse => cases h
  rename_i hk0
  refine x1_2 (zaa.mp h) fun i hi h => ?_
  refine x1_2 (zab.mp h) fun e' he h => ?_
  subst h
  simp only [ex] at hv
  refine x1_2 (zaa.mp hv) fun w hw hv => ?_
  refine x1_2 (zab.mp hv) fun ρ1 h1 hv => ?_
  subst hv
  refine x0_2 (zos h1) fun q e1 => ?_
  subst e1
  refine x0_4 (zlo hX.toXE hi) fun a1 a2 a3 a4 => ?_
  have hl : i < ρ.length := by
   have : (after w ρ).length = ρ.length := by unfold after; split; rfl; unfold frz; rw [zad]
   rw [this] at q; exact q
  cases hsw : swC X.env.scope x px pos scope with
  | false => exact DS.asg (by rw [hX.hN]; exact hX.nd) a1 a2 (.inl (hX.fn _)) (by rw [yla hX.kind, hsw]) hl ((ztx hX.toXE n).1 _ _ _ _ he hw)
  | true =>
   cases n with
   | zero => simp only [trE] at he; cases he
   | succ n =>
    simp only [trE] at he
    change trLC _ _ _ _ _ _ gs = _ at he
    unfold trLC at he
    split at he
    ·refine x4_7 (zts hX.toXE (fun h hv => yjh hX h hv) (fun X' c' h => (zrn n X' c' h).1) (fun X' c' h => (zrn n X' c' h).2.2.2.1) he hw) fun items res f fr e1 hC hI hS hz hr hb => ?_
     subst e1
     exact DS.asgComp (by rw [hX.hN]; exact hX.nd) a1 a2 (.inl (hX.fn _)) hl (by rw [yla hX.kind, hsw]) hX.calm hC hI hS hz hr hb
    ·cases he
 ·split at h
  ·rename_i hc
   refine x1_2 (zaa.mp h) fun i hi h => ?_
   refine x1_2 (zab.mp h) fun e' he h => ?_
   subst h
   simp only [ex] at hv
   refine x1_2 (zaa.mp hv) fun w hw hv => ?_
   refine x1_2 (zab.mp hv) fun ρ1 h1 hv => ?_
   subst hv
   refine x0_2 (zos h1) fun q e1 => ?_
   subst e1
   refine x0_4 (zlo hX.toXE hi) fun a1 a2 a3 a4 => ?_
   have hl : i < ρ.length := by
    have : (after w ρ).length = ρ.length := by unfold after; split; rfl; unfold frz; rw [zad]
    rw [this] at q; exact q
   exact DS.asg (by rw [hX.hN]; exact hX.nd) a1 a2 (.inl (hX.fn _)) (yee hc) hl ((ztx hX.toXE n).1 _ _ _ _ he hw)
  ·cases h
theorem yqu (hX : XC X c Γ) {n : Nat} {ts : List Expr} {k : Nat} {tp spos : Pos} {e : Expr} {s' : S} {ρ : RhoS} {o : Out} (h : ycv n c ts e = some s') (hv : ex Γ s' ρ = some o) : DS X (.Assign [.Tuple ts k tp] e spos) ρ o := by
 unfold ycv at h
 split at h
 ·split at h
  ·rename_i q
   refine x0_8 q fun q1 q2 q3 q4 q5 q6 q7 q8 => ?_; clear q
   refine x1_2 (zaa.mp h) fun i hi h => ?_
   refine x1_2 (zaa.mp h) fun j hj h => ?_
   refine x1_2 (zaa.mp h) fun a' ha h => ?_
   refine x1_2 (zab.mp h) fun b' hb h => ?_
   subst h
   simp only [ex] at hv
   refine x1_2 (zaa.mp hv) fun x hx hv => ?_
   refine x1_2 (zaa.mp hv) fun y hy hv => ?_
   split at hv
   ·rename_i z
    cases hv
    refine x0_4 (zlo hX.toXE hi) fun a1 a2 a3 a4 => ?_
    refine x0_4 (zlo hX.toXE hj) fun b1 b2 b3 b4 => ?_
    have sx := q7
    have sy := q8
    rw [<- hX.hsc] at sx sy
    exact DS.par hX.calm (by rw [hX.hN]; exact hX.nd) a1 b1 z.2.2.1 sx sy (DA.cons (yjh hX ha hx) (DA.cons (yjh hX hb hy) DA.nil q4) q3) z.2.2.2.1 z.2.2.2.2 z.1 z.2.1 (ymw hX.kind sx sy q1 q2 q3 q4 q5 q6)
   ·cases hv
  ·cases h
 ·split at h
  ·rename_i q
   refine x1_2 (zaa.mp h) fun is hi h => ?_
   refine x1_2 (zab.mp h) fun e' he h => ?_
   subst h
   simp only [ex] at hv
   refine x1_2 (zaa.mp hv) fun w hw hv => ?_
   refine x1_2 (zab.mp hv) fun ρ1 h1 hv => ?_
   subst hv
   exact DS.asgT ((ztx hX.toXE n).1 _ _ _ _ he hw) (ycq hX (by show (slots c _).map Tg.tup = _; rw [hi]; rfl) h1) (by unfold swapsWithSole; exact yee q.1) (yip q.2) rfl
  ·cases h
theorem asg_ok (hX : XC X c Γ) {n : Nat} {t : Expr} {spos : Pos} {e : Expr} {s' : S} {ρ : RhoS} {o : Out} (h : ymr n c e t = some s') (hv : ex Γ s' ρ = some o) : DS X (.Assign [t] e spos) ρ o := by
 unfold ymr at h
 split at h
 ·exact yqv hX h hv
 ·split at h
  ·rename_i hc
   refine x1_2 (zaa.mp h) fun i hi h => ?_
   refine x1_2 (zaa.mp h) fun k' hk h => ?_
   refine x1_2 (zab.mp h) fun e' he h => ?_
   subst h
   simp only [ex] at hv
   refine x1_2 (zaa.mp hv) fun w hw hv => ?_
   refine x1_2 (zaa.mp hv) fun j hj hv => ?_
   refine x0_4 (zlo hX.toXE hi) fun a1 a2 a3 a4 => ?_
   split at hv
   ·rename_i l d hr _
    split at hv
    ·rename_i hf
     refine x1_2 (zab.mp hv) fun m hm hv => ?_
     subst hv
     exact DS.seti a1 (Loc.vis a2) a3 a4 hr ((ztx hX.toXE n).1 _ _ _ _ he hw) (yjg hX hk hj) hf hm hc.2 (yon hc.1) yef
    ·cases hv
   ·cases hv
  ·cases h
 ·exact yqu hX h hv
 ·exact zmi h hv
theorem ret_ok (hX : XC X c Γ) {n : Nat} {spos : Pos} {e : Expr} {s' : S} {ρ : RhoS} {o : Out} (h : ymp n c e = some s') (hv : ex Γ s' ρ = some o) : DS X (.Return (some e) spos) ρ o := by
 unfold ymp at h
 split at h
 ·refine x1_2 (zab.mp h) fun i hi h => ?_
  subst h
  simp only [ex] at hv
  refine x0_4 (zlo hX.toXE hi) fun a1 a2 a3 a4 => ?_
  split at hv
  ·rename_i l e
   cases hv
   exact DS.retOwn a1 (Loc.vis a2) a3 a4 e
  ·rename_i d e
   cases hv
   refine DS.ret (DF.var a1 (Loc.vis a2) a3 a4 ?_).de
   unfold view
   rw [zak, e]; rfl
  ·cases hv
 ·refine x1_2 (zab.mp h) fun e' he h => ?_
  subst h
  simp only [ex] at hv
  refine x1_2 (zab.mp hv) fun w hw hv => ?_
  subst hv
  exact DS.ret ((ztx hX.toXE n).1 _ _ _ _ he hw)
theorem x_ok (hX : XC X c Γ) {n : Nat} {spos : Pos} {e : Expr} {s' : S} {ρ : RhoS} {o : Out} (h : trX n c e = some s') (hv : ex Γ s' ρ = some o) : DS X (.Expr e spos) ρ o := by
 unfold trX at h
 split at h
 case h_2 => exact zmi h hv
 rename_i p hp
 obtain ⟨x, m, ap, es, cp⟩ := p
 refine x1_1 (xV_s hp) fun xp qz1 => ?_; subst qz1
 dsimp only at h
 unfold trX2 at h
 split at h
 ·split at h
  ·rename_i hc
   refine x1_2 (zaa.mp h) fun i hi h => ?_
   refine x1_2 (zab.mp h) fun e' he h => ?_
   subst h
   simp only [ex] at hv
   refine x1_2 (zaa.mp hv) fun w hw hv => ?_
   refine x0_4 (zlo hX.toXE hi) fun a1 a2 a3 a4 => ?_
   split at hv
   ·rename_i l d hr
    split at hv
    ·rename_i hf
     cases hv
     refine x0_3 hc fun c1 c2 c3 => ?_; clear hc
     subst c1
     exact DS.app a1 (Loc.vis a2) a3 a4 hr ((ztx hX.toXE n).1 _ _ _ _ he hw) c3 hf.1 hf.2 c2
    ·cases hv
   ·cases hv
  ·cases h
   simp only [ex] at hv
   cases hv
 ·split at h
  ·rename_i hl
   split at h
   ·rename_i hm
    refine x1_2 (zab.mp h) fun i hi h => ?_
    subst h
    subst hm
    refine x0_4 (zlo hX.toXE hi) fun a1 a2 a3 a4 => ?_
    simp only [ex] at hv
    split at hv
    ·rename_i l hr
     split at hv
     ·cases hv
     ·rename_i hn
      cases hv
      exact DS.pop a1 (Loc.vis a2) a3 a4 hr hn hl
    ·cases hv
   ·split at h
    ·rename_i hm
     refine x1_2 (zab.mp h) fun i hi h => ?_
     subst h
     subst hm
     refine x0_4 (zlo hX.toXE hi) fun a1 a2 a3 a4 => ?_
     simp only [ex] at hv
     split at hv
     ·rename_i l hr
      cases hv
      exact DS.clr a1 (Loc.vis a2) a3 a4 hr hl
     ·cases hv
    ·cases h
     simp only [ex] at hv
     cases hv
  ·cases h
   simp only [ex] at hv
   cases hv
 ·exact zmi h hv
theorem yky (hX : XC X c Γ) : ∀ n, (∀ s s' ρ o, trS n c s = some s' -> ex Γ s' ρ = some o -> DS X s ρ o) /\ (∀ l l' ρ o, trSs n c l = some l' -> exs Γ l' ρ = some o -> DSs X l ρ o) := by
 intro n
 induction n with
 | zero => exact ⟨fun e e' ρ w h => by (simp only [trS] at h; cases h), fun e e' ρ w h => by (simp only [trSs] at h; cases h)⟩
 | succ n ih =>
  refine x0_2 ih fun iS iSs => ?_; clear ih
  refine ⟨fun s s' ρ o h hv => ?_, fun l l' ρ o h hv => ?_⟩
  ·simp only [trS] at h
   cases s with
   | Assign ts0 e0 p0 =>
    cases ts0 with
    | nil => exact zmi h hv
    | cons t0 r0 =>
     cases r0 with
     | nil => exact asg_ok hX h hv
     | cons _ _ => exact zmi h hv
   | Return v0 p0 =>
    cases v0 with
    | none => exact zmi h hv
    | some e0 => exact ret_ok hX h hv
   | If t0 a0 b0 p0 =>
    change ((trT n c t0).bind fun t' => (trSs n c a0).bind fun a' => (trSs n c b0).map fun b' => S.iff t' a' b') = some s' at h
    refine x1_2 (zaa.mp h) fun t' ht h => ?_
    refine x1_2 (zaa.mp h) fun a' ha h => ?_
    refine x1_2 (zab.mp h) fun b' hb h => ?_
    subst h
    simp only [ex] at hv
    refine x1_2 (zaa.mp hv) fun k hk hv => ?_
    cases k with
    | true =>
     rw [if_pos rfl] at hv
     exact DS.ifT ((ycr hX.toXE n).1 _ _ _ _ ht hk) (iSs _ _ _ _ ha hv)
    | false =>
     rw [if_neg zav] at hv
     exact DS.ifF ((ycr hX.toXE n).1 _ _ _ _ ht hk) (iSs _ _ _ _ hb hv)
   | While t0 b0 els0 p0 =>
    cases els0 with
    | cons _ _ => exact zmi h hv
    | nil =>
     change ((trT n c t0).bind fun t' => (trSs n c b0).map fun b' => S.whl t' b') = some s' at h
     refine x1_2 (zaa.mp h) fun t' ht h => ?_
     refine x1_2 (zab.mp h) fun b' hb h => ?_
     subst h
     simp only [ex] at hv
     refine x1_1 (zth hv) fun m hm => ?_
     exact DS.while_ hX.po (fun ρ k hk => (ycr hX.toXE n).1 _ _ _ _ ht hk) (fun ρ o ho => iSs _ _ _ _ hb ho) hm
   | For tg0 it0 b0 els0 p0 =>
    cases els0 with
    | cons _ _ => exact zmi h hv
    | nil =>
     change ((trTg c tg0).bind fun g => (trI1 (trE n c) c tg0 it0).bind fun i => (trSs n c b0).map fun b' => S.frr g i b') = some s' at h
     refine x1_2 (zaa.mp h) fun g hg h => ?_
     refine x1_2 (zaa.mp h) fun i hi h => ?_
     refine x1_2 (zab.mp h) fun b' hb h => ?_
     subst h
     simp only [ex] at hv
     obtain ⟨⟨l, ρ1⟩, hl, hv⟩ := zaa.mp hv
     refine x0_2 (trI_ok hX hi hl) fun d1 d2 => ?_
     exact DS.for_ hX.po hX.calm d1 (fun d ρ ρ' hd => ycq hX hg hd) (fun ρ o ho => iSs _ _ _ _ hb ho) hv (noSet d2)
   | Expr e0 p0 => exact x_ok hX h hv
   | _ => exact zmi h hv
  ·cases l with
   | nil =>
    simp only [trSs] at h
    cases h
    simp only [exs] at hv
    cases hv
    exact DSs.nil
   | cons s l =>
    simp only [trSs] at h
    refine x1_2 (zaa.mp h) fun s' hs h => ?_
    refine x1_2 (zab.mp h) fun l2 hl h => ?_
    subst h
    simp only [exs] at hv
    refine x1_2 (zaa.mp hv) fun o1 h1 hv => ?_
    cases o1 with
    | nx ρ1 => exact DSs.next (iS _ _ _ _ hs h1) (iSs _ _ _ _ hl hv)
    | rt w => cases hv; exact DSs.ret (iS _ _ _ _ hs h1)
end
end DL
namespace DL
open PySem L2 PyProof.Rows
noncomputable def GFn (P : Program) (w : World) (K : PySem.W.Frag) (mg : Str -> Option Value) (base : Heap) (k : Nat) (x : Str) (n : Nat) (φ : List D -> Option W) : Prop :=
 ∃ (a : Addr) (fd : FuncData) (ps : List Str), FnOk P w K mg base CX0 k a fd ps (spD K n φ) /\ mg x = some (.ref a) /\ PySem.W.keepIn K (.ref a) = true /\ Binds K fd ps []
noncomputable def GFr (P : Program) (w : World) (K : PySem.W.Frag) (mg : Str -> Option Value) (base : Heap) (k : Nat) (x : Str) (n : Nat) (φ : List D -> Option W) : Prop :=
 ∃ (a : Addr) (fd : FuncData) (ps : List Str), FnOk P w K mg base CX0 k a fd ps (spO K n φ) /\ mg x = some (.ref a) /\ PySem.W.keepIn K (.ref a) = true /\ Binds K fd ps []
section
variable {P : Program} {w : World} {K : PySem.W.Frag} {mg : Str -> Option Value} {base : Heap}
theorem GFr.mono {j k : Nat} {x : Str} {n : Nat} {φ : List D -> Option W} (G : GFr P w K mg base j x n φ) (h : j <= k) : GFr P w K mg base k x n φ := by
 refine x3_2 G fun a fd ps F r => ?_; clear G
 exact ⟨a, fd, ps, F.mono h, r⟩
theorem GFr.imp {k : Nat} {x : Str} {n : Nat} {φ ψ : List D -> Option W} (G : GFr P w K mg base k x n φ) (h : ∀ ds w, ds.length = n -> ψ ds = some w -> φ ds = some w) : GFr P w K mg base k x n ψ := by
 refine x3_2 G fun a fd ps F r => ?_; clear G
 refine ⟨a, fd, ps, F.imp fun vs H Q E hz => x7_9 hz fun Fz a xs us l ds w h0 h1 h2 h3 h4 h5 h6 h7 h8 => ⟨Fz, a, xs, us, l, ds, w, h0, h1, h2, h3, h4, h5, h6, h _ _ (by rw [zah]; exact h6) h7, h8⟩, r⟩
theorem GFn.mono {j k : Nat} {x : Str} {n : Nat} {φ : List D -> Option W} (G : GFn P w K mg base j x n φ) (h : j <= k) : GFn P w K mg base k x n φ := by
 refine x3_2 G fun a fd ps F r => ?_; clear G
 exact ⟨a, fd, ps, F.mono h, r⟩
theorem GFn.imp {k : Nat} {x : Str} {n : Nat} {φ ψ : List D -> Option W} (G : GFn P w K mg base k x n φ) (h : ∀ ds w, ds.length = n -> ψ ds = some w -> φ ds = some w) : GFn P w K mg base k x n ψ := by
 refine x3_2 G fun a fd ps F r => ?_; clear G
 refine ⟨a, fd, ps, F.imp fun vs H Q E hz => x3_5 hz fun Fz ds w h1 h2 h3 h4 h5 => ⟨Fz, ds, w, h1, h2, h3, h ds w h3 h4, h5⟩, r⟩
theorem zrq {N : List Str} {vs : List V} {i : Nat} {v : V} (h : vs[i]? = some v) : (L2.start N vs)[i]? = some (some v) := by
 unfold L2.start
 have hi : i < vs.length := (zal.mp h).1
 rw [zax (by rw [zad]; exact hi), zak, h]
 rfl
theorem yhq {F : Hp} {H : Hp} {ds : List D} {vs : List V} {N : List Str} (h1 : Same F H) (h2 : DenL K F ds vs) : SR K H F F H (L2.start N vs) (ds.map (fun d => some (.sh d)) ++ List.replicate (N.length - ds.length) none) := by
 have hl : vs.length = ds.length := h2.length
 refine ⟨h1, Same.refl _, Same.refl _, fun a o e => .inl e, fun i d e => ?_, fun i l e => ?_, fun i j l m a e => ?_, ?_⟩
 ·by_cases hi : i < ds.length
  ·rw [zax (by rw [zad]; exact hi), zak] at e
   cases q : ds[i]? with
   | none => rw [q] at e; cases e
   | some d' =>
    rw [q] at e
    cases e
    refine x1_2 (h2.get q) fun v hv r => ?_
    exact ⟨v, zrq hv, r⟩
  ·rw [zao (by rw [zad]; omega)] at e
   rw [zcg] at e
   split at e <;> cases e
 ·by_cases hi : i < ds.length
  ·rw [zax (by rw [zad]; exact hi), zak] at e
   cases q : ds[i]? with
   | none => rw [q] at e; cases e
   | some d' => rw [q] at e; cases e
  ·rw [zao (by rw [zad]; omega)] at e
   rw [zcg] at e
   split at e <;> cases e
 ·by_cases hi : i < ds.length
  ·rw [zax (by rw [zad]; exact hi), zak] at e
   cases q : ds[i]? with
   | none => rw [q] at e; cases e
   | some d' => rw [q] at e; cases e
  ·rw [zao (by rw [zad]; omega)] at e
   rw [zcg] at e
   split at e <;> cases e
 ·unfold L2.start
  rw [zap, zap, zad, zad, zbs, zbs, hl]
structure Deps (P : Program) (w : World) (K : PySem.W.Frag) (mg : Str -> Option Value) (base : Heap) (k : Nat) (Γ : Nat -> List D -> Option W) (fns rzs : List (Str × Nat × Nat)) (xs : Bool) : Prop where
 fns : ∀ x f n, fns.lookup x = some (f, n) -> GFn P w K mg base k x n (Γ f)
 rzs : ∀ x f n, rzs.lookup x = some (f, n) -> GFr P w K mg base k x n (Γ f)
 xf : xs = true -> XFacts K mg
 blt : ∀ x ∈ zmx, mg x = none
theorem xc_of {CX : CXT} {qual : Str} {sc : Scope} {f : Addr} {N ps : List Str} {k : Nat} {fns rzs : List (Str × Nat × Nat)} {xs : Bool} {Γ : Nat -> List D -> Option W} {cdv : Value} {A : Around} {outer : List Env} {s : Shared} {H : Hp} {E : XK} (S : FnScope N ps sc) (hd : Deps P w K mg base k Γ fns rzs xs)
  (hr : Room k (A.deeper (envOfC qual sc s.heap.objs.size f cdv))) : XC (cxOf CX P w K mg base N qual sc f cdv A outer s H E).nox ⟨N, sc, fns, rzs, xs⟩ Γ := by
 refine ⟨⟨rfl, rfl, S.nd, rfl, S.kind, fun x f n h => ?_, hd.xf, hr.units, hd.blt, fun x f n h => ?_⟩, fun _ => rfl, PassesOwn.never, rfl, rfl, rfl⟩
 ·refine x3_4 (hd.fns x f n h) fun a fd ps G g1 g2 g3 => ?_
  exact ⟨k, a, fd, ps, G, hr, g1, g2, g3⟩
 ·refine x3_4 (hd.rzs x f n h) fun a fd ps G g1 g2 g3 => ?_
  exact ⟨k, a, fd, ps, G, hr, g1, g2, g3⟩
theorem yaf {x qual : Str} {st : Stmt} {f : Addr} {fd : FuncData} {N ps : List Str} {k m : Nat} {fns rzs : List (Str × Nat × Nat)} {xs : Bool} {Γ : Nat -> List D -> Option W} {body : Ss} (F : Fun K x qual st f fd) (S : FnScope N ps (zkg st))
  (hTr : trSs m ⟨N, zkg st, fns, rzs, xs⟩ (zkj st) = some body) (hd : Deps P w K mg base k Γ fns rzs xs) :
  FnOk P w K mg base CX0 (k + 1) f fd ps (spD K ps.length (run Γ body N.length)) := by
 refine F.ok S (fun vs H Q E hz => x3_5 hz fun Fz ds w h1 h2 h3 h4 h5 => by rw [h2.length]; exact h3) (fun cdv A outer s H vs Q E hr hz => x3_5 hz fun Fz ds wv h1 h2 h3 h4 h5 => ?_)
 have hX := xc_of (CX := CX0) (E := E) (outer := outer) (H := H) S hd hr
 unfold run at h4
 refine x1_2 (zaa.mp h4) fun o ho h4 => ?_
 have hS := (yky hX m).2 _ _ _ _ hTr ho
 refine ⟨_, hS H Fz, Fz, yhq h1 h2, ?_⟩
 cases o with
 | rt w' =>
  cases h4
  exact fun v H' F' r q => h5 v H' F' r.same r.base r.sub (fun a o e => r.new a o e) q
 | nx ρ' =>
  cases h4
  exact fun σ' H' F' s' S' => h5 _ H' F' S'.same S'.base S'.sub (fun a o e => S'.new a o e) (RW.v Den.non_mk)
theorem gfn_of {x qual : Str} {st : Stmt} {f : Addr} {fd : FuncData} {N ps : List Str} {k m n : Nat} {fns rzs : List (Str × Nat × Nat)} {xs : Bool} {Γ : Nat -> List D -> Option W} {body : Ss} {φ : List D -> Option W} (F : Fun K x qual st f fd) (S : FnScope N ps (zkg st)) (hB : Binds K fd ps [])
  (hm : mg x = some (.ref f)) (hTr : trSs m ⟨N, zkg st, fns, rzs, xs⟩ (zkj st) = some body) (hn : ps.length = n) (hd : Deps P w K mg base k Γ fns rzs xs)
  (hφ : ∀ ds w, ds.length = n -> φ ds = some w -> run Γ body N.length ds = some w) : GFn P w K mg base (k + 1) x n φ := by
 subst hn
 exact GFn.imp ⟨f, fd, ps, yaf F S hTr hd, hm, F.kp, hB⟩ hφ
noncomputable def runO (Γ : Nat -> List D -> Option W) (b : Ss) (n : Nat) : List D -> Option W
 | .lst l :: ds => (exs Γ b (some (.ow l) :: (ds.map (fun d => some (.sh d)) ++ List.replicate (n - (ds.length + 1)) none))).bind fun o => match o with
  | .rt w => some w
  | .nx _ => some (.val .non)
 | _ => none
theorem ydc {F H : Hp} {a : Addr} {xs : List V} {l ds : List D} {us : List V} {N : List Str} (h1 : Same F H) (ha : F a = none) (hH : H a = some (.lst xs)) (h2 : DenL K F l xs) (h3 : DenL K F ds us) :
  SR K (del H a) F F H (L2.start N (.ref a :: us)) (some (.ow l) :: (ds.map (fun d => some (.sh d)) ++ List.replicate (N.length - (ds.length + 1)) none)) := by
 have hl : us.length = ds.length := h3.length
 have one : ∀ (i : Nat) m, (some (B.ow l) :: (ds.map (fun d => some (.sh d)) ++ List.replicate (N.length - (ds.length + 1)) none))[i]? = some (some (.ow m)) -> i = 0 /\ m = l := fun i m e => by
  cases i with
  | zero => cases e; exact ⟨rfl, rfl⟩
  | succ i =>
   rw [zch] at e
   by_cases hi : i < ds.length
   ·rw [zax (by rw [zad]; exact hi), zak] at e
    cases q : ds[i]? with
    | none => rw [q] at e; cases e
    | some d' => rw [q] at e; cases e
   ·rw [zao (by rw [zad]; omega)] at e
    rw [zcg] at e
    split at e <;> cases e
 refine ⟨h1, yjx H a, Same.refl _, fun a o e => .inl e, fun i d e => ?_, fun i m e => ?_, fun i j m m2 a e e2 _ _ => ?_, ?_⟩
 ·cases i with
  | zero => cases e
  | succ i =>
   rw [zch] at e
   by_cases hi : i < ds.length
   ·rw [zax (by rw [zad]; exact hi), zak] at e
    cases q : ds[i]? with
    | none => rw [q] at e; cases e
    | some d' =>
     rw [q] at e
     cases e
     refine x1_2 (h3.get q) fun v hv r => ?_
     exact ⟨v, zrq (by rw [zch]; exact hv), r⟩
   ·rw [zao (by rw [zad]; omega)] at e
    rw [zcg] at e
    split at e <;> cases e
 ·refine x0_2 (one i m e) fun e1 e2 => ?_
  subst e1; subst e2
  exact ⟨a, xs, zrq rfl, ha, del_at H a, hH, h2⟩
 ·rw [(one i m e).1, (one j m2 e2).1]
 ·unfold L2.start
  simp only [zap, zah, zad, zbs, hl]
  omega
theorem fn_own {x qual : Str} {st : Stmt} {f : Addr} {fd : FuncData} {N ps : List Str} {k m : Nat} {fns rzs : List (Str × Nat × Nat)} {xs : Bool} {Γ : Nat -> List D -> Option W} {body : Ss} (F : Fun K x qual st f fd) (S : FnScope N ps (zkg st))
  (hTr : trSs m ⟨N, zkg st, fns, rzs, xs⟩ (zkj st) = some body) (hd : Deps P w K mg base k Γ fns rzs xs) :
  FnOk P w K mg base CX0 (k + 1) f fd ps (spO K ps.length (runO Γ body N.length)) := by
 refine F.ok S (fun vs H Q E hz => x7_9 hz fun Fz a xs us l ds w h0 h1 h2 h3 h4 h5 h6 h7 h8 => by rw [h0, zah, h5.length]; exact h6) (fun cdv A outer s H vs Q E hr hz => x7_9 hz fun Fz a xs us l ds wv h0 h1 h2 h3 h4 h5 h6 h7 h8 => ?_)
 have hX := xc_of (CX := CX0) (E := E) (outer := outer) (H := H) S hd hr
 unfold runO at h7
 refine x1_2 (zaa.mp h7) fun o ho h7 => ?_
 have hS := (yky hX m).2 _ _ _ _ hTr ho
 subst h0
 refine ⟨_, hS (del H a) Fz, Fz, ydc h1 h2 h3 h4 h5, ?_⟩
 cases o with
 | rt w' =>
  cases h7
  exact fun v H' F' r q => h8 v H' F' r.same r.base r.sub (fun a o e => r.new a o e) q
 | nx ρ' =>
  cases h7
  exact fun σ' H' F' s' S' => h8 _ H' F' S'.same S'.base S'.sub (fun a o e => S'.new a o e) (RW.v Den.non_mk)
theorem gfo_of {x qual : Str} {st : Stmt} {f : Addr} {fd : FuncData} {N ps : List Str} {k m n : Nat} {fns rzs : List (Str × Nat × Nat)} {xs : Bool} {Γ : Nat -> List D -> Option W} {body : Ss} {φ : List D -> Option W} (F : Fun K x qual st f fd) (S : FnScope N ps (zkg st)) (hB : Binds K fd ps [])
  (hm : mg x = some (.ref f)) (hTr : trSs m ⟨N, zkg st, fns, rzs, xs⟩ (zkj st) = some body) (hn : ps.length = n) (hd : Deps P w K mg base k Γ fns rzs xs)
  (hφ : ∀ ds w, ds.length = n -> φ ds = some w -> runO Γ body N.length ds = some w) : GFr P w K mg base (k + 1) x n φ := by
 subst hn
 exact GFr.imp ⟨f, fd, ps, fn_own F S hTr hd, hm, F.kp, hB⟩ hφ
end
end DL
namespace DL
open PySem L2 PyProof.Rows
noncomputable def At (K : PySem.W.Frag) (x : Str) (st : Stmt) : Prop := ∃ (f : Addr) (oc : Value) (od : Option Addr) (kV doc pm : Value) (an : Option Addr) (cdv ct : Value) (osl : Array (Option Value)),
 PySem.W.nsIn K mainGlobals x = some (some (.ref f)) /\ K.lookup f = some ⟨oc, od, .func (PySem.W.fnOf x x (zmp st) (zkj st) (zkg st) .none kV doc pm an cdv ct), osl⟩ /\ PySem.W.codeIn K cdv x = true /\ PySem.W.keepIn K (.ref f) = true
theorem at_mk {K : PySem.W.Frag} {x : Str} {st : Stmt} {f : Addr} {oc : Value} {od : Option Addr} {kV doc pm : Value} {an : Option Addr} {cdv ct : Value} {osl : Array (Option Value)} (a : PySem.W.nsIn K mainGlobals x = some (some (.ref f)))
  (l : K.lookup f = some ⟨oc, od, .func (PySem.W.fnOf x x (zmp st) (zkj st) (zkg st) .none kV doc pm an cdv ct), osl⟩) (c : PySem.W.codeIn K cdv x = true) (k : PySem.W.keepIn K (.ref f) = true) : At K x st := ⟨f, oc, od, kV, doc, pm, an, cdv, ct, osl, a, l, c, k⟩
noncomputable def Bnd (x : Str) (st : Stmt) (ps : List Str) : Prop := ∀ (kV doc pm : Value) (an : Option Addr) (cdv ct : Value) (us : List Value), us.length = ps.length -> bindArgs (PySem.W.fnOf x x (zmp st) (zkj st) (zkg st) .none kV doc pm an cdv ct) ⟨us, []⟩ = pure (ps.zip us)
noncomputable def Calls (P : Program) (w : World) (K : PySem.W.Frag) (mg : Str -> Option Value) (base : Heap) (k : Nat) (Γ : Nat -> List D -> Option W) (fns : List (Str × Nat × Nat)) : Prop := ∀ x f n, fns.lookup x = some (f, n) -> GFn P w K mg base k x n (Γ f)
noncomputable def CallsR (P : Program) (w : World) (K : PySem.W.Frag) (mg : Str -> Option Value) (base : Heap) (k : Nat) (Γ : Nat -> List D -> Option W) (fns : List (Str × Nat × Nat)) : Prop := ∀ x f n, fns.lookup x = some (f, n) -> GFr P w K mg base k x n (Γ f)
section
variable {P : Program} {w : World} {K : PySem.W.Frag} {mg : Str -> Option Value} {base : Heap} {Γ : Nat -> List D -> Option W}
theorem Calls.nil {k : Nat} : Calls P w K mg base k Γ [] := fun x f n h => by cases h
theorem Calls.cons {j k f n : Nat} {x : Str} {l : List (Str × Nat × Nat)} (h : GFn P w K mg base j x n (Γ f)) (hj : j <= k) (r : Calls P w K mg base k Γ l) : Calls P w K mg base k Γ ((x, f, n) :: l) := fun y g m e => by
 rw [zcy] at e
 cases q : (y == x) with
 | true =>
  rw [q] at e
  cases e
  have := eq_of_beq q
  subst this
  exact h.mono hj
 | false => rw [q] at e; exact r y g m e
theorem CallsR.nil {k : Nat} : CallsR P w K mg base k Γ [] := fun x f n h => by cases h
theorem CallsR.cons {j k f n : Nat} {x : Str} {l : List (Str × Nat × Nat)} (h : GFr P w K mg base j x n (Γ f)) (hj : j <= k) (r : CallsR P w K mg base k Γ l) : CallsR P w K mg base k Γ ((x, f, n) :: l) := fun y g m e => by
 rw [zcy] at e
 cases q : (y == x) with
 | true =>
  rw [q] at e
  cases e
  have := eq_of_beq q
  subst this
  exact h.mono hj
 | false => rw [q] at e; exact r y g m e
theorem zkt {h : Heap} {x : Str} {st : Stmt} {N ps : List Str} {k m n : Nat} {fns rzs : List (Str × Nat × Nat)} {xs : Bool} {body : Ss} {φ : List D -> Option W} (A : At K x st) (X : K.In h) (G : h.Ns mainGlobals mg) (S : FnScope N ps (zkg st)) (B : Bnd x st ps)
  (hTr : trSs m ⟨N, zkg st, fns, rzs, xs⟩ (zkj st) = some body) (hn : ps.length = n) (hd : Deps P w K mg base k Γ fns rzs xs)
  (hφ : ∀ ds w, ds.length = n -> φ ds = some w -> run Γ body N.length ds = some w) : GFn P w K mg base (k + 1) x n φ := by
 obtain ⟨f, oc, od, kV, doc, pm, an, cdv, ct, osl, a, l, c, kp⟩ := A
 have F := yfe (st := st) l c kp
 exact gfn_of F S (F.binds B) (zhq X G a) hTr hn hd hφ
theorem gfo_at {h : Heap} {x : Str} {st : Stmt} {N ps : List Str} {k m n : Nat} {fns rzs : List (Str × Nat × Nat)} {xs : Bool} {body : Ss} {φ : List D -> Option W} (A : At K x st) (X : K.In h) (G : h.Ns mainGlobals mg) (S : FnScope N ps (zkg st)) (B : Bnd x st ps)
  (hTr : trSs m ⟨N, zkg st, fns, rzs, xs⟩ (zkj st) = some body) (hn : ps.length = n) (hd : Deps P w K mg base k Γ fns rzs xs)
  (hφ : ∀ ds w, ds.length = n -> φ ds = some w -> runO Γ body N.length ds = some w) : GFr P w K mg base (k + 1) x n φ := by
 obtain ⟨f, oc, od, kV, doc, pm, an, cdv, ct, osl, a, l, c, kp⟩ := A
 have F := yfe (st := st) l c kp
 exact gfo_of F S (F.binds B) (zhq X G a) hTr hn hd hφ
theorem law_at {h : Heap} {x p : Str} {st : Stmt} {N : List Str} {k m : Nat} {fa : Addr} {fns rzs : List (Str × Nat × Nat)} {xs : Bool} {body : Ss} (A : At K x st) (X : K.In h) (G : h.Ns mainGlobals mg) (hfa : mg x = some (.ref fa)) (S : FnScope N [p] (zkg st)) (B : Bnd x st [p])
  (hTr : trSs m ⟨N, zkg st, fns, rzs, xs⟩ (zkj st) = some body) (hc : ∀ base : Heap, K.In base -> base.Ns mainGlobals mg -> Deps P w K mg base k Γ fns rzs xs) :
  ∃ fd : FuncData, (∀ (s : Shared) (v : Value), BindsTo s fd ⟨[v], []⟩ [(p, v)]) /\ ∀ base : Heap, K.In base -> base.Ns mainGlobals mg -> FnOk P w K mg base CX0 (k + 1) fa fd [p] (spD K 1 (run Γ body N.length)) := by
 obtain ⟨f, oc, od, kV, doc, pm, an, cdv, ct, osl, a, l, c, kp⟩ := A
 have e := hfa.symm.trans (zhq X G a)
 cases e
 have F := yfe (st := st) l c kp
 exact ⟨_, fun s v => .of_eq (B kV doc pm an cdv ct [v] rfl), fun base hk hn => yaf F S hTr (hc base hk hn)⟩
theorem yjb {n : Nat} {φ : List D -> Option W} (hφ : ∀ ns : List Int, ns.length <= n -> φ [.lst (ns.map D.int)] = some (.val (.bl true))) (H : Hp) (a : Addr) (ns : List Int) (hl : ns.length <= n) (hS : SqL K H a (ns.map V.int)) :
  spD K 1 φ [.ref a] H (fun v _ => v = .bl true) fun _ _ _ => False :=
 ⟨H, [.lst (ns.map D.int)], .val (.bl true), Same.refl _, DenL.cons (Den.lst_mk hS (DenL.ints ns)) DenL.nil, rfl, hφ ns hl, fun v H' F' _ _ _ _ q => (show Den K F' (.bl true) v from q).bl⟩
theorem ykf {h : Heap} (X : K.In h) (G : h.Ns mainGlobals mg) (hz : ∀ x ∈ zmx, PySem.W.nsIn K mainGlobals x = some none) : ∀ x ∈ zmx, mg x = none := fun x hx => PySem.W.mg_none_of X G (hz x hx)
end
section
variable {K : PySem.W.Frag} {mg : Str -> Option Value}
end
end DL
namespace DL
noncomputable def bin2 (f : D -> D -> Option W) : Option D -> Option D -> Option W
 | some x, some y => f x y
 | _, _ => none
noncomputable def un1 (f : D -> Option W) : Option D -> Option W
 | some x => f x
 | _ => none
noncomputable def andO : Option Bool -> Option W -> Option W
 | some true, y => y
 | some false, _ => some (.val (.bl false))
 | none, _ => none
noncomputable def orO : Option Bool -> Option W -> Option W
 | some true, _ => some (.val (.bl true))
 | some false, y => y
 | none, _ => none
noncomputable def iffO {α : Type} : Option Bool -> Option α -> Option α -> Option α
 | some true, x, _ => x
 | some false, _, y => y
 | none, _, _ => none
noncomputable def appL (f : List D -> Option W) : Option (List D) -> Option W
 | some l => f l
 | none => none
noncomputable def consO : Option D -> Option (List D) -> Option (List D)
 | some d, some l => some (d :: l)
 | _, _ => none
noncomputable def slO : Option D -> Option (Option Int) -> Option (Option Int) -> Option W
 | some x, some i, some j => slD x i j
 | _, _, _ => none
noncomputable def cmpW (c : Cm) (x y : D) : Option W := (cmpD c x y).map fun k => .val (.bl k)
noncomputable def ixW (x y : D) : Option W := (ixD x y).map W.val
noncomputable def negW : D -> Option W
 | .int i => some (.val (.int (-i)))
 | _ => none
noncomputable def notW : Option Bool -> Option W
 | some k => some (.val (.bl (!k)))
 | none => none
noncomputable def tupW (ds : List D) : Option W := if ds.length <= PySem.sizeLine then some (.val (.tup ds)) else none
noncomputable def lstW (ds : List D) : Option W := if ds.length <= PySem.sizeLine then some (.new ds) else none
noncomputable def isiW (t : Ty) (d : D) : Option W := (ybo t d).map fun k => .val (.bl k)
noncomputable def isxW (ys : List PySem.Str) (d : D) : Option W := (isX ys d).map fun k => .val (.bl k)
theorem isiW_i {t : Ty} {i : Int} : isiW t (.int i) = some (.val (.bl (isTy t (.int i)))) := rfl
theorem isiW_b {t : Ty} {i : Bool} : isiW t (.bl i) = some (.val (.bl (isTy t (.bl i)))) := rfl
theorem isiW_t {t : Ty} {l : List D} : isiW t (.tup l) = some (.val (.bl (isTy t (.tup l)))) := rfl
theorem isiW_l {t : Ty} {l : List D} : isiW t (.lst l) = some (.val (.bl (isTy t (.lst l)))) := rfl
theorem isiW_n {t : Ty} : isiW t .non = some (.val (.bl (isTy t .non))) := rfl
theorem isxW_n {ys : List PySem.Str} : isxW ys .non = some (.val (.bl false)) := rfl
section
variable {Γ : Nat -> List D -> Option W} {ρ : Rho}
noncomputable def evd (Γ : Nat -> List D -> Option W) (e : E) (ρ : Rho) : Option D := (ev Γ e ρ).map W.d
noncomputable def evb (Γ : Nat -> List D -> Option W) (e : E) (ρ : Rho) : Option Bool := (evd Γ e ρ).bind znd
theorem ev_var {i : Nat} : ev Γ (.var i) ρ = (varD ρ i).map W.val := by simp only [ev]
theorem ev_int {i : Int} : ev Γ (.int i) ρ = some (.val (.int i)) := by simp only [ev]
theorem ev_bl {i : Bool} : ev Γ (.bl i) ρ = some (.val (.bl i)) := by simp only [ev]
theorem ev_bin {o : Op} {a b : E} : ev Γ (.bin o a b) ρ = bin2 (opW o) (evd Γ a ρ) (evd Γ b ρ) := by
 simp only [ev, evd]
 cases (ev Γ a ρ) <;> cases (ev Γ b ρ) <;> rfl
theorem ev_neg {a : E} : ev Γ (.neg a) ρ = un1 negW (evd Γ a ρ) := by
 simp only [ev, evd]
 cases (ev Γ a ρ) with
 | none => rfl
 | some w => simp only [zbv, zbj, un1]; cases w.d <;> rfl
theorem ev_cmp {o : Cm} {a b : E} : ev Γ (.cmp o a b) ρ = bin2 (cmpW o) (evd Γ a ρ) (evd Γ b ρ) := by
 simp only [ev, evd]
 cases (ev Γ a ρ) <;> cases (ev Γ b ρ) <;> rfl
theorem ev_and {a b : E} : ev Γ (.and a b) ρ = andO (evb Γ a ρ) (ev Γ b ρ) := by
 simp only [ev, evd, evb]
 cases (Option.map W.d (ev Γ a ρ)).bind znd with
 | none => rfl
 | some k => cases k <;> rfl
theorem ev_or {a b : E} : ev Γ (.or a b) ρ = orO (evb Γ a ρ) (ev Γ b ρ) := by
 simp only [ev, evd, evb]
 cases (Option.map W.d (ev Γ a ρ)).bind znd with
 | none => rfl
 | some k => cases k <;> rfl
theorem ev_not {a : E} : ev Γ (.not a) ρ = notW (evb Γ a ρ) := by
 simp only [ev, evd, evb]
 cases (Option.map W.d (ev Γ a ρ)).bind znd <;> rfl
theorem ev_tup {l : Es} : ev Γ (.tup l) ρ = appL tupW (evs Γ l ρ) := by
 simp only [ev]
 cases (evs Γ l ρ) <;> rfl
theorem ev_lst {l : Es} : ev Γ (.lst l) ρ = appL lstW (evs Γ l ρ) := by
 simp only [ev]
 cases (evs Γ l ρ) <;> rfl
theorem ev_ix {a b : E} : ev Γ (.ix a b) ρ = bin2 ixW (evd Γ a ρ) (evd Γ b ρ) := by
 simp only [ev, evd]
 cases (ev Γ a ρ) <;> cases (ev Γ b ρ) <;> rfl
theorem ev_sl {a : E} {lo hi : EO} : ev Γ (.sl a lo hi) ρ = slO (evd Γ a ρ) (evo Γ lo ρ) (evo Γ hi ρ) := by
 simp only [ev, evd]
 cases (ev Γ a ρ) <;> cases (evo Γ lo ρ) <;> cases (evo Γ hi ρ) <;> rfl
theorem ypp {f : Nat} {l : Es} : ev Γ (.call f l) ρ = appL (Γ f) (evs Γ l ρ) := by
 simp only [ev]
 cases (evs Γ l ρ) <;> rfl
theorem yjq {f : Nat} {a : E} {l : Es} : ev Γ (.callO f a l) ρ = (ev Γ a ρ).bind fun w => (evs Γ l ρ).bind fun ds => ownW (Γ f) w ds := by simp only [ev]
theorem ev_bi {f : Bi} {l : Es} : ev Γ (.bi f l) ρ = appL (biW f) (evs Γ l ρ) := by
 simp only [ev]
 cases (evs Γ l ρ) <;> rfl
theorem ev_isi {a : E} {t : Ty} : ev Γ (.isi a t) ρ = un1 (isiW t) (evd Γ a ρ) := by
 simp only [ev, evd]
 cases (ev Γ a ρ) <;> rfl
theorem ypk : evs Γ .nil ρ = some [] := by simp only [evs]
theorem yjp {e : E} {l : Es} : evs Γ (.cons e l) ρ = consO (evd Γ e ρ) (evs Γ l ρ) := by
 simp only [evs, evd]
 cases (ev Γ e ρ) <;> cases (evs Γ l ρ) <;> rfl
theorem ypm : evo Γ .non ρ = some none := by simp only [evo]
theorem ypl {e : E} : evo Γ (.som e) ρ = ((evd Γ e ρ).bind dInt).map some := by simp only [evo, evd]
end
noncomputable def ymt (Γ : Nat -> List D -> Option W) : Option Out -> Ss -> Option Out
 | some (.nx ρ), l => exs Γ l ρ
 | some (.rt w), _ => some (.rt w)
 | none, _ => none
noncomputable def asgO (ρ : RhoS) (i : Nat) : Option W -> Option Out
 | some w => (setR (after w ρ) i w.b).map Out.nx
 | none => none
noncomputable def unpO (ρ : RhoS) (is : List Nat) : Option W -> Option Out
 | some w => (zle (.tup is) w.d (after w ρ)).map Out.nx
 | none => none
noncomputable def parO (ρ : RhoS) (i j : Nat) : Option D -> Option D -> Option Out
 | some x, some y => if lf x = true /\ lf y = true /\ i ≠ j /\ i < ρ.length /\ j < ρ.length then some (.nx ((ρ.set i (some (.sh x))).set j (some (.sh y)))) else none
 | _, _ => none
noncomputable def retO : Option W -> Option Out
 | some w => some (.rt w)
 | none => none
noncomputable def ynn : Option (Option B) -> Option Out
 | some (some (.ow l)) => some (.rt (.new l))
 | some (some (.sh d)) => some (.rt (.val d))
 | _ => none
noncomputable def forO (bt : D -> RhoS -> Option RhoS) (fb : RhoS -> Option Out) : Option (List D × RhoS) -> Option Out
 | some (l, ρ) => forN bt fb l ρ
 | none => none
noncomputable def outO : Option Out -> Option W
 | some (.rt w) => some w
 | some (.nx _) => some (.val .non)
 | none => none
noncomputable def seqO (ρ : RhoS) : Option W -> Option (List D × RhoS)
 | some w => match w.d with
  | .lst l => some (l, after w ρ)
  | .tup l => some (l, after w ρ)
  | _ => none
 | none => none
noncomputable def rng1O (ρ : RhoS) : Option D -> Option (List D × RhoS)
 | some (.int n) => if -(2 ^ 62) <= n /\ n < 2 ^ 62 then some (zld 0 n.toNat, ρ) else none
 | _ => none
noncomputable def rng2O (ρ : RhoS) : Option D -> Option D -> Option (List D × RhoS)
 | some (.int m), some (.int n) => if -(2 ^ 62) <= m /\ m < 2 ^ 62 /\ -(2 ^ 62) <= n /\ n < 2 ^ 62 then some (zld m (n - m).toNat, ρ) else none
 | _, _ => none
noncomputable def enumO (ρ : RhoS) : Option D -> Option (List D × RhoS)
 | some (.lst l) => some (yjv l, frz ρ)
 | _ => none
section
variable {Γ : Nat -> List D -> Option W} {ρ : RhoS}
theorem yph : exs Γ .nil ρ = some (.nx ρ) := by simp only [exs]
theorem yag {s : S} {l : Ss} : exs Γ (.cons s l) ρ = ymt Γ (ex Γ s ρ) l := by
 simp only [exs]
 cases ex Γ s ρ with
 | none => rfl
 | some o => cases o <;> rfl
theorem ex_asg {i : Nat} {e : E} : ex Γ (.asg i e) ρ = asgO ρ i (ev Γ e (view ρ)) := by
 simp only [ex]
 cases ev Γ e (view ρ) <;> rfl
theorem ex_unp {is : List Nat} {e : E} : ex Γ (.unp is e) ρ = unpO ρ is (ev Γ e (view ρ)) := by
 simp only [ex]
 cases ev Γ e (view ρ) <;> rfl
theorem ex_par {i j : Nat} {a b : E} : ex Γ (.par i j a b) ρ = parO ρ i j (evd Γ a (view ρ)) (evd Γ b (view ρ)) := by
 simp only [ex, evd]
 cases ev Γ a (view ρ) <;> cases ev Γ b (view ρ) <;> rfl
theorem ex_ret {e : E} : ex Γ (.ret e) ρ = retO (ev Γ e (view ρ)) := by
 simp only [ex]
 cases ev Γ e (view ρ) <;> rfl
theorem ypj {i : Nat} : ex Γ (.retV i) ρ = ynn ρ[i]? := by
 simp only [ex]
 cases ρ[i]? with
 | none => rfl
 | some o => cases o with
  | none => rfl
  | some b => cases b <;> rfl
theorem ex_iff {c : E} {a b : Ss} : ex Γ (.iff c a b) ρ = iffO (evb Γ c (view ρ)) (exs Γ a ρ) (exs Γ b ρ) := by
 simp only [ex, evB, evb, evd]
 cases (Option.map W.d (ev Γ c (view ρ))).bind znd with
 | none => rfl
 | some k => cases k <;> rfl
theorem ex_whl {c : E} {b : Ss} : ex Γ (.whl c b) ρ = zti (evB Γ c) (exs Γ b) ρ := by simp only [ex]
theorem ex_frr {t : Tg} {it : It'} {b : Ss} : ex Γ (.frr t it b) ρ = forO (zle t) (exs Γ b) (evI Γ it ρ) := by
 simp only [ex]
 cases evI Γ it ρ <;> rfl
theorem evB_eq {c : E} : evB Γ c ρ = evb Γ c (view ρ) := rfl
theorem ypq {e : E} : evI Γ (.seq e) ρ = seqO ρ (ev Γ e (view ρ)) := by
 simp only [evI]
 cases ev Γ e (view ρ) <;> rfl
theorem yjs {i : Nat} : evI Γ (.seqV i) ρ = seqB ρ ρ[i]? := by simp only [evI]
theorem seqB_l {l : List D} : seqB ρ (some (some (.sh (.lst l)))) = some (l, ρ) := rfl
theorem seqB_t {l : List D} : seqB ρ (some (some (.sh (.tup l)))) = some (l, ρ) := rfl
theorem seqB_o {l : List D} : seqB ρ (some (some (.ow l))) = some (l, frz ρ) := rfl
theorem ybw {e : E} : evI Γ (.range1 e) ρ = rng1O ρ (evd Γ e (view ρ)) := by
 simp only [evI, evd]
 cases ev Γ e (view ρ) with
 | none => rfl
 | some w => simp only [zbv, zbj]; cases w.d <;> rfl
theorem ybv {a b : E} : evI Γ (.range2 a b) ρ = rng2O ρ (evd Γ a (view ρ)) (evd Γ b (view ρ)) := by
 simp only [evI, evd]
 cases ev Γ a (view ρ) with
 | none => rfl
 | some w =>
  cases ev Γ b (view ρ) with
  | none => simp only [zbv, zbj]; cases w.d <;> rfl
  | some u => simp only [zbv, zbj]; cases w.d <;> cases u.d <;> rfl
theorem ydk {b : Ss} {n : Nat} {ds : List D} : run Γ b n ds = outO (exs Γ b (ds.map (fun d => some (.sh d)) ++ List.replicate (n - ds.length) none)) := by
 unfold run
 cases exs Γ b (ds.map (fun d => some (.sh d)) ++ List.replicate (n - ds.length) none) with
 | none => rfl
 | some o => cases o <;> rfl
end
section
variable {Γ : Nat -> List D -> Option W} {ρ : RhoS}
theorem bin2_s {f : D -> D -> Option W} {x y : D} : bin2 f (some x) (some y) = f x y := rfl
theorem un1_s {f : D -> Option W} {x : D} : un1 f (some x) = f x := rfl
theorem andO_t {y : Option W} : andO (some true) y = y := rfl
theorem andO_f {y : Option W} : andO (some false) y = some (.val (.bl false)) := rfl
theorem orO_t {y : Option W} : orO (some true) y = some (.val (.bl true)) := rfl
theorem orO_f {y : Option W} : orO (some false) y = y := rfl
theorem iffO_t {α : Type} {x y : Option α} : iffO (some true) x y = x := rfl
theorem iffO_f {α : Type} {x y : Option α} : iffO (some false) x y = y := rfl
theorem appL_s {f : List D -> Option W} {l : List D} : appL f (some l) = f l := rfl
theorem ypx {d : D} {l : List D} : consO (some d) (some l) = some (d :: l) := rfl
theorem slO_s {x : D} {i j : Option Int} : slO (some x) (some i) (some j) = slD x i j := rfl
theorem notW_s {k : Bool} : notW (some k) = some (.val (.bl (!k))) := rfl
theorem yhn {l : Ss} : ymt Γ (some (.nx ρ)) l = exs Γ l ρ := rfl
theorem yhm {l : Ss} {w : W} : ymt Γ (some (.rt w)) l = some (.rt w) := rfl
theorem asgO_s {i : Nat} {w : W} : asgO ρ i (some w) = (setR (after w ρ) i w.b).map Out.nx := rfl
theorem unpO_s {is : List Nat} {w : W} : unpO ρ is (some w) = (zle (.tup is) w.d (after w ρ)).map Out.nx := rfl
theorem parO_s {i j : Nat} {x y : D} : parO ρ i j (some x) (some y) = if lf x = true /\ lf y = true /\ i ≠ j /\ i < ρ.length /\ j < ρ.length then some (.nx ((ρ.set i (some (.sh x))).set j (some (.sh y)))) else none := rfl
theorem retO_s {w : W} : retO (some w) = some (.rt w) := rfl
theorem ynm {l : List D} : ynn (some (some (.ow l))) = some (.rt (.new l)) := rfl
theorem ynl {d : D} : ynn (some (some (.sh d))) = some (.rt (.val d)) := rfl
theorem forO_s {bt : D -> RhoS -> Option RhoS} {fb : RhoS -> Option Out} {l : List D} : forO bt fb (some (l, ρ)) = forN bt fb l ρ := rfl
theorem yod {w : W} : outO (some (.rt w)) = some w := rfl
theorem yoe : outO (some (.nx ρ)) = some (.val .non) := rfl
theorem yne {l : List D} : seqO ρ (some (.new l)) = some (l, after (.new l) ρ) := rfl
theorem ynd {l : List D} : seqO ρ (some (.val (.lst l))) = some (l, after (.val (.lst l)) ρ) := rfl
theorem ync {l : List D} : seqO ρ (some (.val (.tup l))) = some (l, after (.val (.tup l)) ρ) := rfl
theorem ypr {l : List D} : enumO ρ (some (.lst l)) = some (yjv l, frz ρ) := rfl
theorem ynj {n : Int} : rng1O ρ (some (.int n)) = if -(2 ^ 62) <= n /\ n < 2 ^ 62 then some (zld 0 n.toNat, ρ) else none := rfl
theorem yni {m n : Int} : rng2O ρ (some (.int m)) (some (.int n)) = if -(2 ^ 62) <= m /\ m < 2 ^ 62 /\ -(2 ^ 62) <= n /\ n < 2 ^ 62 then some (zld m (n - m).toNat, ρ) else none := rfl
theorem varD_0 {o : Option D} {r : Rho} : varD (o :: r) 0 = o := by cases o <;> rfl
theorem varD_s {o : Option D} {r : Rho} {i : Nat} : varD (o :: r) (i + 1) = varD r i := rfl
theorem yha : view [] = [] := rfl
theorem yci {o : Option B} {r : RhoS} : view (o :: r) = o.map B.d :: view r := rfl
theorem yqy {i : Int} : after (.val (.int i)) ρ = ρ := rfl
theorem yqz {i : Bool} : after (.val (.bl i)) ρ = ρ := rfl
theorem yqx : after (.val .non) ρ = ρ := rfl
theorem Wd_v {d : D} : (W.val d).d = d := rfl
theorem Wd_n {l : List D} : (W.new l).d = .lst l := rfl
theorem Wb_v {d : D} : (W.val d).b = .sh d := rfl
theorem Wb_n {l : List D} : (W.new l).b = .ow l := rfl
theorem Bd_s {d : D} : (B.sh d).d = d := rfl
theorem Bd_o {l : List D} : (B.ow l).d = .lst l := rfl
theorem ypu {k : Bool} : znd (.bl k) = some k := rfl
theorem dInt_s {k : Int} : dInt (.int k) = some k := rfl
theorem zwf {o : Option B} {b : B} : setR (o :: ρ) 0 b = some (some b :: ρ) := rfl
theorem zwe {o : Option B} {i : Nat} {b : B} : setR (o :: ρ) (i + 1) b = (setR ρ i b).map (o :: ·) := by
 unfold setR
 by_cases h : i < ρ.length
 ·rw [if_pos h, if_pos (by rw [zah]; omega)]; rfl
 ·rw [if_neg h, if_neg (by rw [zah]; omega)]; rfl
theorem op_add {a b : Int} : opW .add (.int a) (.int b) = some (.val (.int (a + b))) := rfl
theorem op_sub {a b : Int} : opW .sub (.int a) (.int b) = some (.val (.int (a - b))) := rfl
theorem op_mul {a b : Int} : opW .mul (.int a) (.int b) = if zkz a b = true then some (.val (.int (a * b))) else none := rfl
theorem op_fdiv {a b : Int} : opW .fdiv (.int a) (.int b) = if zqo b = true then some (.val (.int (a.fdiv b))) else none := rfl
theorem op_mod {a b : Int} : opW .mod (.int a) (.int b) = if b = 0 then none else some (.val (.int (a.fmod b))) := rfl
theorem op_pow {a b : Int} : opW .pow (.int a) (.int b) = if zuk a b = true then some (.val (.int (a ^ b.toNat))) else none := rfl
end
theorem sl0 : (0 <= PySem.sizeLine) = True := eq_true (by decide)
theorem sl2 : (2 <= PySem.sizeLine) = True := eq_true (by decide)
theorem sl3 : (3 <= PySem.sizeLine) = True := eq_true (by decide)
theorem at1_0 {a : D} : L2.atI [a] 0 = some a := rfl
theorem at2_0 {a b : D} : L2.atI [a, b] 0 = some a := rfl
theorem at2_1 {a b : D} : L2.atI [a, b] 1 = some b := rfl
theorem at3_0 {a b c : D} : L2.atI [a, b, c] 0 = some a := rfl
theorem at3_1 {a b c : D} : L2.atI [a, b, c] 1 = some b := rfl
theorem at3_2 {a b c : D} : L2.atI [a, b, c] 2 = some c := rfl
theorem at4_0 {a b c d : D} : L2.atI [a, b, c, d] 0 = some a := rfl
theorem at4_1 {a b c d : D} : L2.atI [a, b, c, d] 1 = some b := rfl
theorem at4_2 {a b c d : D} : L2.atI [a, b, c, d] 2 = some c := rfl
theorem at4_3 {a b c d : D} : L2.atI [a, b, c, d] 3 = some d := rfl
theorem at5_0 {a b c d e : D} : L2.atI [a, b, c, d, e] 0 = some a := rfl
theorem at5_1 {a b c d e : D} : L2.atI [a, b, c, d, e] 1 = some b := rfl
theorem at5_2 {a b c d e : D} : L2.atI [a, b, c, d, e] 2 = some c := rfl
theorem at5_3 {a b c d e : D} : L2.atI [a, b, c, d, e] 3 = some d := rfl
theorem at5_4 {a b c d e : D} : L2.atI [a, b, c, d, e] 4 = some e := rfl
theorem at6_0 {a b c d e f : D} : L2.atI [a, b, c, d, e, f] 0 = some a := rfl
theorem at6_1 {a b c d e f : D} : L2.atI [a, b, c, d, e, f] 1 = some b := rfl
theorem at6_2 {a b c d e f : D} : L2.atI [a, b, c, d, e, f] 2 = some c := rfl
theorem at6_3 {a b c d e f : D} : L2.atI [a, b, c, d, e, f] 3 = some d := rfl
theorem at6_4 {a b c d e f : D} : L2.atI [a, b, c, d, e, f] 4 = some e := rfl
theorem at6_5 {a b c d e f : D} : L2.atI [a, b, c, d, e, f] 5 = some f := rfl
theorem zuy {a b : Int} (h : 0 < b) : a.fmod b = a % b := zdv _ (by omega)
theorem yjo {a b : Int} (h : 0 < b) : a.fdiv b = a / b := zfb _ (by omega)
theorem zyn {b : Int} (h0 : 0 < b) (h1 : b < 1000000000000000000000000000000000000000000000000000000000000000000000000000000000000000000000000000000000000000000000000000000000000000000000000000000) : zqo b = true := by
 unfold zqo
 rw [zaj]
 refine ⟨decide_eq_true (by omega), decide_eq_true ?_⟩
 have : (1000000000000000000000000000000000000000000000000000000000000000000000000000000000000000000000000000000000000000000000000000000000000000000000000000000 : Nat) <= 2 ^ 9000 := by decide +kernel
 omega
theorem zkr {a b : Int} (h0 : -1000000000000000000000000000000000000000000000000000000000000000000000000000000000000000000000000000000000000000000000000000000000000000000000000000000 < a) (h1 : a < 1000000000000000000000000000000000000000000000000000000000000000000000000000000000000000000000000000000000000000000000000000000000000000000000000000000) (h2 : -1000000000000000000000000000000000000000000000000000000000000000000000000000000000000000000000000000000000000000000000000000000000000000000000000000000 < b) (h3 : b < 1000000000000000000000000000000000000000000000000000000000000000000000000000000000000000000000000000000000000000000000000000000000000000000000000000000) : zkz a b = true := by
 unfold zkz
 rw [zaj]
 have : (1000000000000000000000000000000000000000000000000000000000000000000000000000000000000000000000000000000000000000000000000000000000000000000000000000000 : Nat) <= 2 ^ 16000 := by decide +kernel
 exact ⟨decide_eq_true (by omega), decide_eq_true (by omega)⟩
theorem op_p6 : opW .pow (.int 10) (.int 6) = some (.val (.int 1000000)) := by
 have h : zuk 10 6 = true := by decide +kernel
 have e : ((10 : Int) ^ Int.toNat 6) = 1000000 := by decide +kernel
 rw [op_pow, if_pos h, e]
theorem op_p9 : opW .pow (.int 10) (.int 9) = some (.val (.int 1000000000)) := by
 have h : zuk 10 9 = true := by decide +kernel
 have e : ((10 : Int) ^ Int.toNat 9) = 1000000000 := by decide +kernel
 rw [op_pow, if_pos h, e]
theorem op_p18 : opW .pow (.int 10) (.int 18) = some (.val (.int 1000000000000000000)) := by
 have h : zuk 10 18 = true := by decide +kernel
 have e : ((10 : Int) ^ Int.toNat 18) = 1000000000000000000 := by decide +kernel
 rw [op_pow, if_pos h, e]
theorem op_p30 : opW .pow (.int 10) (.int 30) = some (.val (.int 1000000000000000000000000000000)) := by
 have h : zuk 10 30 = true := by decide +kernel
 have e : ((10 : Int) ^ Int.toNat 30) = 1000000000000000000000000000000 := by decide +kernel
 rw [op_pow, if_pos h, e]
theorem op_p64 : opW .pow (.int 10) (.int 64) = some (.val (.int 10000000000000000000000000000000000000000000000000000000000000000)) := by
 have h : zuk 10 64 = true := by decide +kernel
 have e : ((10 : Int) ^ Int.toNat 64) = 10000000000000000000000000000000000000000000000000000000000000000 := by decide +kernel
 rw [op_pow, if_pos h, e]
theorem cs0 : ((0 : Nat) : Int) = 0 := rfl
theorem cs1 : ((1 : Nat) : Int) = 1 := rfl
theorem cs2 : ((2 : Nat) : Int) = 2 := rfl
theorem cs3 : ((3 : Nat) : Int) = 3 := rfl
theorem cs4 : ((4 : Nat) : Int) = 4 := rfl
theorem cs5 : ((5 : Nat) : Int) = 5 := rfl
theorem cs6 : ((6 : Nat) : Int) = 6 := rfl
theorem cs7 : ((7 : Nat) : Int) = 7 := rfl
theorem cs8 : ((8 : Nat) : Int) = 8 := rfl
theorem cs9 : ((9 : Nat) : Int) = 9 := rfl
theorem cs10 : ((10 : Nat) : Int) = 10 := rfl
theorem cs11 : ((11 : Nat) : Int) = 11 := rfl
theorem cs12 : ((12 : Nat) : Int) = 12 := rfl
theorem ixD_t {l : List D} {i : Int} : ixD (.tup l) (.int i) = L2.atI l i := rfl
theorem ixD_l {l : List D} {i : Int} : ixD (.lst l) (.int i) = L2.atI l i := rfl
theorem slD_l {l : List D} {i j : Option Int} : slD (.lst l) i j = some (.new (cutD l i j)) := rfl
theorem zpe {i : Nat} {d : D} {ρ : RhoS} : zle (.name i) d ρ = setR ρ i (.sh d) := rfl
theorem ykj {is : List Nat} {ds : List D} {ρ : RhoS} : zle (.tup is) (.tup ds) ρ = zop is ds ρ := rfl
noncomputable def appO (ρ : RhoS) (i : Nat) : Option (Option B) -> Option W -> Option Out
 | some (some (.ow l)), some (.val d) => if lf d = true /\ l.length < PySem.sizeLine then some (.nx (ρ.set i (some (.ow (l ++ [d]))))) else none
 | _, _ => none
noncomputable def popO (ρ : RhoS) (i : Nat) : Option (Option B) -> Option Out
 | some (some (.ow l)) => if l = [] then none else some (.nx (ρ.set i (some (.ow l.dropLast))))
 | _ => none
noncomputable def clrO (ρ : RhoS) (i : Nat) : Option (Option B) -> Option Out
 | some (some (.ow _)) => some (.nx (ρ.set i (some (.ow []))))
 | _ => none
noncomputable def ybd (ρ : RhoS) (i : Nat) : Option (Option B) -> Option W -> Option D -> Option Out
 | some (some (.ow l)), some (.val d), some (.int j) => if lf d = true then (L2.ixN l.length j).map fun n => .nx (ρ.set i (some (.ow (l.set n d)))) else none
 | _, _, _ => none
section
variable {Γ : Nat -> List D -> Option W} {ρ : RhoS}
theorem ex_app {i : Nat} {e : E} : ex Γ (.app i e) ρ = appO ρ i ρ[i]? (ev Γ e (view ρ)) := by
 simp only [ex]
 cases ev Γ e (view ρ) with
 | none =>
  rw [zgv]
  unfold appO
  cases ρ[i]? with
  | none => rfl
  | some o => cases o with
   | none => rfl
   | some b => cases b <;> rfl
 | some w =>
  rw [zbj]
  unfold appO
  cases ρ[i]? with
  | none => rfl
  | some o => cases o with
   | none => rfl
   | some b => cases b <;> cases w <;> rfl
theorem ex_pop {i : Nat} : ex Γ (.pop i) ρ = popO ρ i ρ[i]? := by
 simp only [ex]
 unfold popO
 cases ρ[i]? with
 | none => rfl
 | some o => cases o with
  | none => rfl
  | some b => cases b <;> rfl
theorem ypi {i : Nat} {k e : E} : ex Γ (.seti i k e) ρ = ybd ρ i ρ[i]? (ev Γ e (view ρ)) (evd Γ k (view ρ)) := by
 simp only [ex, evd]
 cases ev Γ e (view ρ) with
 | none =>
  rw [zgv]
  unfold ybd
  cases ρ[i]? with
  | none => rfl
  | some o => cases o with
   | none => rfl
   | some b => cases b <;> rfl
 | some w =>
  rw [zbj]
  cases ev Γ k (view ρ) with
  | none =>
   unfold ybd
   cases ρ[i]? with
   | none => rfl
   | some o => cases o with
    | none => rfl
    | some b => cases b <;> cases w <;> rfl
  | some u =>
   simp only [zbv, zbj]
   cases u.d with
   | int j =>
    unfold ybd
    cases ρ[i]? with
    | none => rfl
    | some o => cases o with
     | none => rfl
     | some b => cases b <;> cases w <;> rfl
   | _ =>
    unfold ybd
    cases ρ[i]? with
    | none => rfl
    | some o => cases o with
     | none => rfl
     | some b => cases b <;> cases w <;> rfl
theorem appO_s {i : Nat} {l : List D} {d : D} : appO ρ i (some (some (.ow l))) (some (.val d)) = if lf d = true /\ l.length < PySem.sizeLine then some (.nx (ρ.set i (some (.ow (l ++ [d]))))) else none := rfl
theorem popO_s {i : Nat} {l : List D} : popO ρ i (some (some (.ow l))) = if l = [] then none else some (.nx (ρ.set i (some (.ow l.dropLast)))) := rfl
theorem clrO_s {i : Nat} {l : List D} : clrO ρ i (some (some (.ow l))) = some (.nx (ρ.set i (some (.ow [])))) := rfl
theorem ynb {i : Nat} {l : List D} {d : D} {j : Int} : ybd ρ i (some (some (.ow l))) (some (.val d)) (some (.int j)) = if lf d = true then (L2.ixN l.length j).map fun n => .nx (ρ.set i (some (.ow (l.set n d)))) else none := rfl
end
section
variable {Γ : Nat -> List D -> Option W} {ρ : Rho}
theorem ev_fm {f : Fm} {l : Es} : ev Γ (.fm f l) ρ = appL (fmW f) (evs Γ l ρ) := by
 simp only [ev]
 cases (evs Γ l ρ) <;> rfl
theorem ev_lcp {a : E} : ev Γ (.lcp a) ρ = un1 lcpW (evd Γ a ρ) := by
 simp only [ev, evd]
 cases (ev Γ a ρ) <;> rfl
noncomputable def yda (Γ : Nat -> List D -> Option W) (elt : E) (t : Tg) (nt : Nat) (fr : List Nat) (c : EO) (ρ : Rho) (d : D) : Option (Option D) :=
 (zmf t d (blkR nt fr ρ)).bind fun ρd => (evc Γ c ρd).bind fun k => if k = true then ((ev Γ elt ρd).map W.d).map some else some none
theorem yfm {elt : E} {t : Tg} {it : It'} {nt : Nat} {fr : List Nat} {c : EO} : ev Γ (.comp elt t it nt fr c) ρ = (evW Γ it ρ).bind fun items => if items.length <= PySem.sizeLine /\ tgOk nt t = true then (znp (yda Γ elt t nt fr c ρ) items).map W.new else none := by
 simp only [ev]
 rfl
theorem yjr {i : Nat} : evW Γ (.seqV i) ρ = (varD ρ i).bind seqD := by simp only [evW]
theorem ypo : evc Γ .non ρ = some true := by simp only [evc]
theorem ypn {e : E} : evc Γ (.som e) ρ = evb Γ e ρ := by simp only [evc, evb, evd]
theorem zxg {α : Type} {f : D -> Option (Option D)} {g : α -> D} {h : α -> D} : ∀ {l : List α}, (∀ x ∈ l, f (g x) = some (some (h x))) -> znp f (l.map g) = some (l.map h)
 | [], _ => rfl
 | x :: l, hl => by
  rw [zba, zba]
  unfold znp
  rw [hl x (.head _)]
  simp only
  rw [zxg fun y hy => hl y (.tail _ hy)]
  rfl
theorem znu {α : Type} {elt : E} {t : Tg} {it : It'} {nt : Nat} {fr : List Nat} {c : EO} {l : List α} {g h : α -> D} (hI : evW Γ it ρ = some (l.map g)) (hz : l.length <= PySem.sizeLine) (ht : tgOk nt t = true) (hs : ∀ x ∈ l, yda Γ elt t nt fr c ρ (g x) = some (some (h x))) :
  ev Γ (.comp elt t it nt fr c) ρ = some (.new (l.map h)) := by
 rw [yfm, hI, zbj, if_pos ⟨by rw [zad]; exact hz, ht⟩, zxg hs]
 rfl
end
theorem ygg {i : Nat} {d : D} {ρ : Rho} : zmf (.name i) d ρ = setE ρ i d := rfl
theorem ygf {is : List Nat} {ds : List D} {ρ : Rho} : zmf (.tup is) (.tup ds) ρ = zmy is ds ρ := rfl
theorem setE_0 {o : Option D} {d : D} {ρ : Rho} : setE (o :: ρ) 0 d = some (some d :: ρ) := rfl
theorem setE_s {o : Option D} {i : Nat} {d : D} {ρ : Rho} : setE (o :: ρ) (i + 1) d = (setE ρ i d).map (o :: ·) := by
 unfold setE
 by_cases h : i < ρ.length
 ·rw [if_pos h, if_pos (by rw [zah]; omega)]; rfl
 ·rw [if_neg h, if_neg (by rw [zah]; omega)]; rfl
end DL
namespace DL
section
theorem zkh {α β : Type} {o o' : Option α} {f f' : α -> Option β} {y : β} (h1 : ∀ x, o = some x -> o' = some x) (h2 : ∀ x y, f x = some y -> f' x = some y) (h : o.bind f = some y) : o'.bind f' = some y := by
 refine x1_2 (zaa.mp h) fun x e1 e2 => ?_
 rw [h1 x e1, zbj]
 exact h2 x y e2
theorem zkn {α β : Type} {o o' : Option α} {f : α -> β} {y : β} (h1 : ∀ x, o = some x -> o' = some x) (h : o.map f = some y) : o'.map f = some y := by
 refine x1_2 (zab.mp h) fun x e1 e2 => ?_
 rw [h1 x e1, zbv, e2]
theorem ztn {α : Type} {c : Prop} [Decidable c] {a b a' b' : Option α} {y : α} (h1 : a = some y -> a' = some y) (h2 : b = some y -> b' = some y) (h : (if c then a else b) = some y) : (if c then a' else b') = some y := by
 by_cases q : c
 ·rw [if_pos q] at h ⊢; exact h1 h
 ·rw [if_neg q] at h ⊢; exact h2 h
theorem zvb {f f' : D -> Option (Option D)} (h : ∀ d y, f d = some y -> f' d = some y) : ∀ {l : List D} {r : List D}, znp f l = some r -> znp f' l = some r
 | [], _, q => q
 | d :: l, r, q => by
  unfold znp at q ⊢
  cases e : f d with
  | none => rw [e] at q; cases q
  | some o =>
   rw [e] at q
   rw [h d o e]
   cases o with
   | none => exact zvb h q
   | some x => exact zkn (fun r => zvb h) q
variable {Γ Γ' : Nat -> List D -> Option W}
theorem yoa {φ ψ : List D -> Option W} (h : ∀ ds w, φ ds = some w -> ψ ds = some w) {w : W} {ds : List D} {r : W} (q : ownW φ w ds = some r) : ownW ψ w ds = some r := by
 cases w with
 | val d => cases q
 | new l =>
  unfold ownW at q ⊢
  exact zkh (h _) (fun _ _ z => z) q
mutual
theorem zku (h : ∀ f ds w, Γ f ds = some w -> Γ' f ds = some w) : ∀ (e : E) (ρ : Rho) (w : W), ev Γ e ρ = some w -> ev Γ' e ρ = some w
 | .var i, ρ, w, q => by simp only [ev] at q ⊢; exact q
 | .int i, ρ, w, q => by simp only [ev] at q ⊢; exact q
 | .bl b, ρ, w, q => by simp only [ev] at q ⊢; exact q
 | .non, ρ, w, q => by simp only [ev] at q ⊢; exact q
 | .bin o a b, ρ, w, q => by
  simp only [ev] at q ⊢
  exact zkh (fun x => zkn (zku h a ρ)) (fun x y => zkh (fun x => zkn (zku h b ρ)) fun _ _ z => z) q
 | .neg a, ρ, w, q => by
  simp only [ev] at q ⊢
  exact zkn (fun x => zkh (fun x => zkn (zku h a ρ)) fun _ _ z => z) q
 | .cmp c a b, ρ, w, q => by
  simp only [ev] at q ⊢
  exact zkh (fun x => zkn (zku h a ρ)) (fun x y => zkh (fun x => zkn (zku h b ρ)) fun _ _ z => z) q
 | .and a b, ρ, w, q => by
  simp only [ev] at q ⊢
  exact zkh (fun x => zkh (fun x => zkn (zku h a ρ)) fun _ _ z => z) (fun x y => ztn (zku h b ρ y) fun z => z) q
 | .or a b, ρ, w, q => by
  simp only [ev] at q ⊢
  exact zkh (fun x => zkh (fun x => zkn (zku h a ρ)) fun _ _ z => z) (fun x y => ztn (fun z => z) (zku h b ρ y)) q
 | .not a, ρ, w, q => by
  simp only [ev] at q ⊢
  exact zkn (fun x => zkh (fun x => zkn (zku h a ρ)) fun _ _ z => z) q
 | .ife c a b, ρ, w, q => by
  simp only [ev] at q ⊢
  exact zkh (fun x => zkh (fun x => zkn (zku h c ρ)) fun _ _ z => z) (fun x y => ztn (zku h a ρ y) (zku h b ρ y)) q
 | .tup l, ρ, w, q => by
  simp only [ev] at q ⊢
  exact zkh (evs_le h l ρ) (fun _ _ z => z) q
 | .lst l, ρ, w, q => by
  simp only [ev] at q ⊢
  exact zkh (evs_le h l ρ) (fun _ _ z => z) q
 | .ix a b, ρ, w, q => by
  simp only [ev] at q ⊢
  exact zkh (fun x => zkn (zku h a ρ)) (fun x y => zkh (fun x => zkn (zku h b ρ)) fun _ _ z => z) q
 | .sl a lo hi, ρ, w, q => by
  simp only [ev] at q ⊢
  exact zkh (fun x => zkn (zku h a ρ)) (fun x y => zkh (evo_le h lo ρ) fun _ _ => zkh (evo_le h hi ρ) fun _ _ z => z) q
 | .call f l, ρ, w, q => by
  simp only [ev] at q ⊢
  exact zkh (evs_le h l ρ) (fun ds y => h f ds y) q
 | .callO f a l, ρ, w, q => by
  simp only [ev] at q ⊢
  exact zkh (zku h a ρ) (fun w1 _ => zkh (evs_le h l ρ) fun ds _ z => yoa (h f) z) q
 | .bi f l, ρ, w, q => by
  simp only [ev] at q ⊢
  exact zkh (evs_le h l ρ) (fun _ _ z => z) q
 | .isi a t, ρ, w, q => by
  simp only [ev] at q ⊢
  exact zkh (fun x => zkn (zku h a ρ)) (fun _ _ z => z) q
 | .isx a ys, ρ, w, q => by
  simp only [ev] at q ⊢
  exact zkh (fun x => zkn (zku h a ρ)) (fun _ _ z => z) q
 | .fm f l, ρ, w, q => by
  simp only [ev] at q ⊢
  exact zkh (evs_le h l ρ) (fun _ _ z => z) q
 | .lcp a, ρ, w, q => by
  simp only [ev] at q ⊢
  exact zkh (fun x => zkn (zku h a ρ)) (fun _ _ z => z) q
 | .comp elt t it nt fr c, ρ, w, q => by
  simp only [ev] at q ⊢
  refine zkh (evW_le h it ρ) (fun items y => ztn (zkn fun r => zvb fun d y => ?_) fun z => z) q
  exact zkh (fun _ z => z) (fun ρd y => zkh (evc_le h c ρd) fun k y => ztn (zkn fun x => zkn (zku h elt ρd)) fun z => z)
theorem evs_le (h : ∀ f ds w, Γ f ds = some w -> Γ' f ds = some w) : ∀ (l : Es) (ρ : Rho) (w : List D), evs Γ l ρ = some w -> evs Γ' l ρ = some w
 | .nil, ρ, w, q => by simp only [evs] at q ⊢; exact q
 | .cons e l, ρ, w, q => by
  simp only [evs] at q ⊢
  exact zkh (fun x => zkn (zku h e ρ)) (fun x y => zkn (evs_le h l ρ)) q
theorem evo_le (h : ∀ f ds w, Γ f ds = some w -> Γ' f ds = some w) : ∀ (l : EO) (ρ : Rho) (w : Option Int), evo Γ l ρ = some w -> evo Γ' l ρ = some w
 | .non, ρ, w, q => by simp only [evo] at q ⊢; exact q
 | .som e, ρ, w, q => by
  simp only [evo] at q ⊢
  exact zkn (fun x => zkh (fun x => zkn (zku h e ρ)) fun _ _ z => z) q
theorem evc_le (h : ∀ f ds w, Γ f ds = some w -> Γ' f ds = some w) : ∀ (l : EO) (ρ : Rho) (w : Bool), evc Γ l ρ = some w -> evc Γ' l ρ = some w
 | .non, ρ, w, q => by simp only [evc] at q ⊢; exact q
 | .som e, ρ, w, q => by
  simp only [evc] at q ⊢
  exact zkh (fun x => zkn (zku h e ρ)) (fun _ _ z => z) q
theorem evW_le (h : ∀ f ds w, Γ f ds = some w -> Γ' f ds = some w) : ∀ (l : It') (ρ : Rho) (w : List D), evW Γ l ρ = some w -> evW Γ' l ρ = some w
 | .seq e, ρ, w, q => by
  simp only [evW] at q ⊢
  exact zkh (fun x => zkn (zku h e ρ)) (fun _ _ z => z) q
 | .seqV i, ρ, w, q => by simp only [evW] at q ⊢; exact q
 | .range1 a, ρ, w, q => by
  simp only [evW] at q ⊢
  exact zkh (fun x => zkh (fun x => zkn (zku h a ρ)) fun _ _ z => z) (fun _ _ z => z) q
 | .range2 a b, ρ, w, q => by
  simp only [evW] at q ⊢
  exact zkh (fun x => zkh (fun x => zkn (zku h a ρ)) fun _ _ z => z) (fun _ _ => zkh (fun x => zkh (fun x => zkn (zku h b ρ)) fun _ _ z => z) fun _ _ z => z) q
 | .enum e, ρ, w, q => by
  simp only [evW] at q ⊢
  exact zkn (fun x => zkh (fun x => zkn (zku h e ρ)) fun _ _ z => z) q
end
theorem evI_le (h : ∀ f ds w, Γ f ds = some w -> Γ' f ds = some w) : ∀ (l : It') (ρ : RhoS) (w : List D × RhoS), evI Γ l ρ = some w -> evI Γ' l ρ = some w
 | .seq e, ρ, w, q => by
  simp only [evI] at q ⊢
  exact zkh (zku h e (view ρ)) (fun _ _ z => z) q
 | .seqV i, ρ, w, q => by simp only [evI] at q ⊢; exact q
 | .range1 a, ρ, w, q => by
  simp only [evI] at q ⊢
  exact zkh (fun x => zkh (fun x => zkn (zku h a (view ρ))) fun _ _ z => z) (fun _ _ z => z) q
 | .range2 a b, ρ, w, q => by
  simp only [evI] at q ⊢
  exact zkh (fun x => zkh (fun x => zkn (zku h a (view ρ))) fun _ _ z => z) (fun _ _ => zkh (fun x => zkh (fun x => zkn (zku h b (view ρ))) fun _ _ z => z) fun _ _ z => z) q
 | .enum e, ρ, w, q => by
  simp only [evI] at q ⊢
  exact zkh (zku h e (view ρ)) (fun _ _ z => z) q
theorem zvn {c c' : RhoS -> Option Bool} {b b' : RhoS -> Option Out} (hc : ∀ ρ k, c ρ = some k -> c' ρ = some k) (hb : ∀ ρ o, b ρ = some o -> b' ρ = some o) : ∀ (n : Nat) (ρ : RhoS) (o : Out), zky c b n ρ = some o -> zky c' b' n ρ = some o
 | 0, _, _, q => by cases q
 | n + 1, ρ, o, q => by
  unfold zky at q ⊢
  cases e : c ρ with
  | none => rw [e] at q; cases q
  | some k =>
   simp only [e] at q
   simp only [hc ρ k e]
   cases k with
   | false => exact q
   | true =>
    cases e2 : b ρ with
    | none => simp only [e2] at q; cases q
    | some o2 =>
     simp only [e2] at q
     simp only [hb ρ o2 e2]
     cases o2 with
     | rt w => exact q
     | nx ρ' => exact zvn hc hb n ρ' o q
theorem yfh {bt : D -> RhoS -> Option RhoS} {b b' : RhoS -> Option Out} (hb : ∀ ρ o, b ρ = some o -> b' ρ = some o) : ∀ (l : List D) (ρ : RhoS) (o : Out), forN bt b l ρ = some o -> forN bt b' l ρ = some o
 | [], _, _, q => q
 | d :: l, ρ, o, q => by
  unfold forN at q ⊢
  cases e : bt d ρ with
  | none => rw [e] at q; cases q
  | some ρ1 =>
   simp only [e] at q
   simp only
   cases e2 : b ρ1 with
   | none => simp only [e2] at q; cases q
   | some o2 =>
    simp only [e2] at q
    simp only [hb ρ1 o2 e2]
    cases o2 with
    | rt w => exact q
    | nx ρ' => exact yfh hb l ρ' o q
mutual
noncomputable def yed : S -> Bool
 | .tryC _ _ _ _ _ => false
 | .iff _ a b => noTrys a && noTrys b
 | .whl _ b => noTrys b
 | .frr _ _ b => noTrys b
 | _ => true
noncomputable def noTrys : Ss -> Bool
 | .nil => true
 | .cons s l => yed s && noTrys l
end
mutual
theorem ex_le (h : ∀ f ds w, Γ f ds = some w -> Γ' f ds = some w) : ∀ (s : S) (ρ : RhoS) (o : Out), yed s = true -> ex Γ s ρ = some o -> ex Γ' s ρ = some o
 | .asg i e, ρ, o, _, q => by
  simp only [ex] at q ⊢
  exact zkh (zku h e _) (fun _ _ z => z) q
 | .unp is e, ρ, o, _, q => by
  simp only [ex] at q ⊢
  exact zkh (zku h e _) (fun _ _ z => z) q
 | .par i j a b, ρ, o, _, q => by
  simp only [ex] at q ⊢
  exact zkh (fun x => zkn (zku h a _)) (fun _ _ => zkh (fun x => zkn (zku h b _)) fun _ _ z => z) q
 | .ret e, ρ, o, _, q => by
  simp only [ex] at q ⊢
  exact zkn (zku h e _) q
 | .retV i, ρ, o, _, q => by simp only [ex] at q ⊢; exact q
 | .iff c a b, ρ, o, n, q => by
  simp only [yed, zaj] at n
  simp only [ex, evB] at q ⊢
  exact zkh (fun x => zkh (fun x => zkn (zku h c _)) fun _ _ z => z) (fun _ y => ztn (exs_le h a ρ y n.1) (exs_le h b ρ y n.2)) q
 | .whl c b, ρ, o, n, q => by
  simp only [yed] at n
  simp only [ex] at q ⊢
  refine x1_1 (zth q) fun m hm => ?_
  refine zoq (zvn (fun ρ k z => ?_) (fun ρ o z => exs_le h b ρ o n z) m ρ o hm)
  unfold evB at z ⊢
  exact zkh (fun x => zkn (zku h c _)) (fun _ _ z => z) z
 | .frr t it b, ρ, o, n, q => by
  simp only [yed] at n
  simp only [ex] at q ⊢
  exact zkh (evI_le h it ρ) (fun p y => yfh (fun ρ o z => exs_le h b ρ o n z) _ _ _) q
 | .tryC f g l i j, ρ, o, n, q => by cases n
 | .app i e, ρ, o, _, q => by
  simp only [ex] at q ⊢
  exact zkh (zku h e _) (fun _ _ z => z) q
 | .pop i, ρ, o, _, q => by simp only [ex] at q ⊢; exact q
 | .clr i, ρ, o, _, q => by simp only [ex] at q ⊢; exact q
 | .seti i k e, ρ, o, _, q => by
  simp only [ex] at q ⊢
  exact zkh (zku h e _) (fun _ _ => zkh (fun x => zkh (fun x => zkn (zku h k _)) fun _ _ z => z) fun _ _ z => z) q
 | .never, ρ, o, _, q => by simp only [ex] at q; cases q
theorem exs_le (h : ∀ f ds w, Γ f ds = some w -> Γ' f ds = some w) : ∀ (l : Ss) (ρ : RhoS) (o : Out), noTrys l = true -> exs Γ l ρ = some o -> exs Γ' l ρ = some o
 | .nil, ρ, o, _, q => by simp only [exs] at q ⊢; exact q
 | .cons s l, ρ, o, n, q => by
  simp only [noTrys, zaj] at n
  simp only [exs] at q ⊢
  refine zkh (fun o z => ex_le h s ρ o n.1 z) (fun o2 y z => ?_) q
  cases o2 with
  | nx ρ' => exact exs_le h l ρ' y n.2 z
  | rt w => exact z
end
noncomputable def tab : List (Nat × (List D -> Option W)) -> Nat -> List D -> Option W
 | [], _ => fun _ => none
 | (k, m) :: t, n => if n = k then m else tab t n
theorem ycy : ∀ (T : List (Nat × (List D -> Option W))), (∀ p ∈ T, Γ p.1 = p.2) -> ∀ f ds w, tab T f ds = some w -> Γ f ds = some w
 | [], _, _, _, _, q => by simp only [tab] at q; cases q
 | (k, m) :: t, h, f, ds, w, q => by
  unfold tab at q
  by_cases e : f = k
  ·rw [if_pos e] at q
   subst e
   rw [h (f, m) (.head _)]
   exact q
  ·rw [if_neg e] at q
   exact ycy t (fun p hp => h p (.tail _ hp)) f ds w q
theorem zna {b : Ss} {n : Nat} (T : List (Nat × (List D -> Option W))) (hT : ∀ p ∈ T, Γ p.1 = p.2) (hb : noTrys b = true) (ds : List D) (w : W) (h : run (tab T) b n ds = some w) : run Γ b n ds = some w := by
 unfold run at h ⊢
 exact zkh (fun o => exs_le (ycy T hT) b _ o hb) (fun _ _ z => z) h
end
theorem cm_lt {a b : Int} : cmpD .lt (.int a) (.int b) = some (decide (a < b)) := rfl
theorem cm_le {a b : Int} : cmpD .le (.int a) (.int b) = some (decide (a <= b)) := rfl
theorem cm_gt {a b : Int} : cmpD .gt (.int a) (.int b) = some (decide (b < a)) := rfl
theorem cm_ge {a b : Int} : cmpD .ge (.int a) (.int b) = some (decide (b <= a)) := rfl
theorem cm_eq {a b : Int} : cmpD .eq (.int a) (.int b) = some (decide (a = b)) := rfl
theorem cm_ne {a b : Int} : cmpD .ne (.int a) (.int b) = some (!decide (a = b)) := rfl
theorem cm_eqB {a b : Bool} : cmpD .eq (.bl a) (.bl b) = some (a == b) := rfl
theorem cm_neB {a b : Bool} : cmpD .ne (.bl a) (.bl b) = some (!(a == b)) := rfl
theorem cm_eqT {a b : List D} : cmpD .eq (.tup a) (.tup b) = if (dOkL 49 a && dOkL 49 b) = true then some (eqL a b) else none := rfl
theorem cm_eqL {a b : List D} : cmpD .eq (.lst a) (.lst b) = if (dOkL 49 a && dOkL 49 b) = true then some (eqL a b) else none := rfl
theorem cm_in {x : D} {l : List D} : cmpD .isin x (.lst l) = if (dOk 50 x && dOkL 49 l) = true then some (l.any fun y => eqD y x) else none := rfl
theorem cm_isN {a : D} : cmpD .isN a .non = some (zxb a) := rfl
theorem yqg {a : D} : cmpD .notN a .non = some (!zxb a) := rfl
end DL
namespace Sf
noncomputable abbrev gc (a b : Int) : Int := ((Int.gcd a b : Nat) : Int)
theorem zsj {a b : Int} (h : b ≠ 0) : 0 < gc a b := Int.natCast_pos.mpr (Int.gcd_pos_of_ne_zero_right a h)
theorem zym {g s : Int} : gc s (g % s) = gc g s := by
 have e : g = g % s + s * (g / s) := by have := Int.emod_add_mul_ediv g s; omega
 show ((Int.gcd s (g % s) : Nat) : Int) = ((Int.gcd g s : Nat) : Int)
 have h : Int.gcd s g = Int.gcd s (g % s) := by
  conv => lhs; rw [e]
  rw [Int.gcd_add_mul_left_right]
 rw [Int.gcd_comm g s, h]
theorem zuu {g : Int} (h : 0 <= g) : gc g 0 = g := by
 show ((Int.gcd g 0 : Nat) : Int) = g
 rw [Int.gcd_zero]; omega
theorem ylv (a b : Int) : gc (if a < 0 then -a else a) (if b < 0 then -b else b) = gc a b := by
 show ((Int.gcd _ _ : Nat) : Int) = _
 split <;> split <;> simp only [Int.neg_gcd, Int.gcd_neg]
theorem yca {p q : Int} (h : ∀ c, c ∣ p -> c ∣ q -> c ∣ 1) : Int.gcd p q = 1 := zdc.mpr h
theorem zpd {k m n : Int} (h : Int.gcd k m = 1) (d : k ∣ m * n) : k ∣ n := by
 have e := zdx (n := k) (m := m) (k := n) h
 have h1 : Int.gcd k (m * n) = k.natAbs := Int.gcd_eq_natAbs_left d
 rw [h1] at e
 exact Int.gcd_eq_natAbs_left_iff_dvd.mp e.symm
theorem zno {a b : Int} (h : a ∣ b) (hb : b ≠ 0) : a.natAbs <= b.natAbs :=
 Nat.le_of_dvd (by omega) (Int.natAbs_dvd_natAbs.mpr h)
theorem zuv {a b : Int} (h : 0 < gc a b) : ∃ x y : Int, a = gc a b * x /\ b = gc a b * y /\ Int.gcd x y = 1 := by
 refine x1_1 (Int.gcd_dvd_left a b) fun x hx => ?_
 refine x1_1 (zke a b) fun y hy => ?_
 refine ⟨x, y, hx, hy, ?_⟩
 have h2 : Int.gcd a b = (gc a b).natAbs * Int.gcd x y := by
  have e := Int.gcd_mul_left (gc a b) x y
  have e1 : gc a b * x = a := hx.symm
  have e2 : gc a b * y = b := hy.symm
  rw [e1, e2] at e
  exact e
 have h3 : (gc a b).natAbs = Int.gcd a b := zbp _
 rw [h3] at h2
 have h4 : 0 < Int.gcd a b := Int.natCast_pos.mp h
 exact (Nat.eq_of_mul_eq_mul_left h4 (by rw [Nat.mul_one]; exact h2)).symm
structure Fra (p q : Int) : Prop where
 pos : 0 < q
 co : Int.gcd p q = 1
theorem Fra.cross_dvd {p q N B : Int} (f : Fra p q) (h : p * B = N * q) : p ∣ N /\ q ∣ B := by
 constructor
 ·refine zpd f.co ⟨B, ?_⟩
  rw [h, zfi]
 ·refine zpd (k := q) (m := p) (by rw [Int.gcd_comm]; exact f.co) ⟨N, ?_⟩
  rw [h, zfi]
theorem Fra.cross_le {p q N B : Int} (f : Fra p q) (hB : B ≠ 0) (h : p * B = N * q) : p.natAbs <= N.natAbs /\ q.natAbs <= B.natAbs := by
 refine x0_2 (f.cross_dvd h) fun h1 h2 => ?_
 refine ⟨?_, zno h2 hB⟩
 by_cases hN : N = 0
 ·subst hN
  rw [zgg] at h
  rcases zgh.mp h with e | e
  ·rw [e]; exact zai _
  ·exact absurd e hB
 ·exact zno h1 hN
theorem Fra.uniq {p q r s : Int} (f : Fra p q) (g : Fra r s) (h : p * s = r * q) : p = r /\ q = s := by
 have h1 := (f.cross_dvd h).2
 have h2 := (g.cross_dvd h.symm).2
 have e : q = s := Int.dvd_antisymm (zcp f.pos) (zcp g.pos) h1 h2
 subst e
 exact ⟨zfc (by have := f.pos; omega) h, rfl⟩
noncomputable def by_ (t b : Int) : Int := if b < 0 then -(gc t b) else gc t b
noncomputable def low1 (t b : Int) : Int := t.fdiv (by_ t b)
noncomputable def low2 (t b : Int) : Int := b.fdiv (by_ t b)
theorem by_ne {t b : Int} (h : b ≠ 0) : by_ t b ≠ 0 := by
 have := zsj (a := t) h
 unfold by_; split <;> omega
theorem zwy {t b : Int} (h : b ≠ 0) : t = by_ t b * low1 t b /\ b = by_ t b * low2 t b /\ Fra (low1 t b) (low2 t b) := by
 have hg := zsj (a := t) h
 refine x2_3 (zuv hg) fun x y hx hy hc => ?_
 have hn := by_ne (t := t) h
 have key : ∃ z : Int, (z = 1 ∨ z = -1) /\ by_ t b = gc t b * z /\ 0 < y * z := by
  by_cases hb : b < 0
  ·refine ⟨-1, .inr rfl, ?_, ?_⟩
   ·unfold by_; rw [if_pos hb]; omega
   ·have : y < 0 := by
     rw [hy] at hb
     by_cases hh : y < 0
     ·exact hh
     ·exact absurd hb (zgj.mpr (zep (zcp hg) (zgj.mp hh)))
    omega
  ·refine ⟨1, .inl rfl, ?_, ?_⟩
   ·unfold by_; rw [if_neg hb]; omega
   ·have : 0 < y := by
     by_cases hh : 0 < y
     ·exact hh
     ·have := zcx (zcp hg) (zgj.mp hh)
      rw [<- hy] at this; omega
    omega
 refine x1_3 key fun z hz hbz hyz => ?_; clear key
 have zz : z * z = 1 := by rcases hz with e | e <;> subst e <;> decide
 have e1 : t = by_ t b * (x * z) := by
  rw [hbz]
  conv => lhs; rw [hx]
  grind
 have e2 : b = by_ t b * (y * z) := by
  rw [hbz]
  conv => lhs; rw [hy]
  grind
 have l1 : low1 t b = x * z := by
  unfold low1
  conv => lhs; arg 1; rw [e1]
  exact zcq _ hn
 have l2 : low2 t b = y * z := by
  unfold low2
  conv => lhs; arg 1; rw [e2]
  exact zcq _ hn
 rw [l1, l2]
 refine ⟨e1, e2, hyz, ?_⟩
 rcases hz with e | e <;> subst e
 ·rw [zjk, zjk]; exact hc
 ·have e3 : x * -1 = -x := by omega
  have e4 : y * -1 = -y := by omega
  rw [e3, e4, Int.neg_gcd, Int.gcd_neg]; exact hc
theorem yeo {t b : Int} (h : b ≠ 0) : Fra (low1 t b) (low2 t b) := (zwy h).2.2
theorem yep {t b : Int} (h : b ≠ 0) : low1 t b * b = t * low2 t b := by
 refine x0_3 (zwy (t := t) h) fun e1 e2 _ => ?_
 generalize by_ t b = g at e1 e2
 generalize low1 t b = x at e1 e2 ⊢
 generalize low2 t b = y at e1 e2 ⊢
 subst e1; subst e2
 grind
noncomputable def addT (a b c d : Int) : Int := a * (d.fdiv (gc b d)) + c * (b.fdiv (gc b d))
noncomputable def add1 (a b c d : Int) : Int := (addT a b c d).fdiv (gc (addT a b c d) (gc b d))
noncomputable def add2 (a b c d : Int) : Int := b.fdiv (gc b d) * d.fdiv (gc (addT a b c d) (gc b d))
theorem add_ok {a b c d : Int} (f : Fra a b) (g : Fra c d) : Fra (add1 a b c d) (add2 a b c d) /\ add1 a b c d * (b * d) = (a * d + c * b) * add2 a b c d := by
 have hb := f.pos
 have hd := g.pos
 have hs : 0 < gc b d := zsj (by omega)
 refine x2_3 (zuv hs) fun b' d' eb ed co => ?_
 have hr : 0 < gc (addT a b c d) (gc b d) := zsj (by omega)
 refine x2_3 (zuv hr) fun t' s' et es co2 => ?_
 have hne : gc b d ≠ 0 := by omega
 have hre : gc (addT a b c d) (gc b d) ≠ 0 := by omega
 have q1 : b.fdiv (gc b d) = b' := by
  conv => lhs; arg 1; rw [eb]
  exact zcq _ hne
 have q2 : d.fdiv (gc b d) = d' := by
  conv => lhs; arg 1; rw [ed]
  exact zcq _ hne
 have hT : addT a b c d = a * d' + c * b' := by unfold addT; rw [q1, q2]
 have q3 : add1 a b c d = t' := by
  unfold add1
  conv => lhs; arg 1; rw [et]
  exact zcq _ hre
 have ed2 : d = gc (addT a b c d) (gc b d) * (s' * d') := by
  conv => lhs; rw [ed]
  rw [<- Int.mul_assoc]
  conv => lhs; arg 1; rw [es]
 have q4 : d.fdiv (gc (addT a b c d) (gc b d)) = s' * d' := by
  conv => lhs; arg 1; rw [ed2]
  exact zcq _ hre
 have q5 : add2 a b c d = b' * (s' * d') := by unfold add2; rw [q1, q4]
 rw [q3, q5]
 generalize gc (addT a b c d) (gc b d) = r at *
 generalize gc b d = s at *
 rw [hT] at et
 have pb : 0 < b' := by
  by_cases hh : 0 < b'
  ·exact hh
  ·have := zcx (zcp hs) (zgj.mp hh); omega
 have pd : 0 < d' := by
  by_cases hh : 0 < d'
  ·exact hh
  ·have := zcx (zcp hs) (zgj.mp hh); omega
 have ps : 0 < s' := by
  by_cases hh : 0 < s'
  ·exact hh
  ·have := zcx (zcp hr) (zgj.mp hh); omega
 have ca : Int.gcd a b' = 1 := yca fun k h1 h2 => zdc.mp f.co k h1 (by rw [eb]; exact zee h2)
 have cc : Int.gcd c d' = 1 := yca fun k h1 h2 => zdc.mp g.co k h1 (by rw [ed]; exact zee h2)
 have dt : t' ∣ a * d' + c * b' := ⟨r, by rw [et, zfi]⟩
 have ctb : Int.gcd t' b' = 1 := yca fun k h1 h2 => by
  have k1 : k ∣ a * d' := (Int.dvd_add_left (zee h2)).mp (zgs h1 dt)
  have kd : Int.gcd k d' = 1 := yca fun j j1 j2 => zdc.mp co j (zgs j1 h2) j2
  have k2 : k ∣ a := zpd kd (by rw [zfi]; exact k1)
  exact zdc.mp ca k k2 h2
 have ctd : Int.gcd t' d' = 1 := yca fun k h1 h2 => by
  have k1 : k ∣ c * b' := (Int.dvd_add_right (zee h2)).mp (zgs h1 dt)
  have kd : Int.gcd k b' = 1 := yca fun j j1 j2 => zdc.mp co j j2 (zgs j1 h2)
  have k2 : k ∣ c := zpd kd (by rw [zfi]; exact k1)
  exact zdc.mp cc k k2 h2
 refine ⟨⟨zfu pb (zfu ps pd), ?_⟩, ?_⟩
 ·rw [zdx ctb, zdx co2]
  exact ctd
 ·subst eb; subst ed; subst es
  have : a * (r * s' * d') + c * (r * s' * b') = r * s' * (r * t') := by rw [<- et]; grind
  rw [this]; grind
end Sf
namespace Sf
theorem znl (x : Rat) : Fra x.num (x.den : Int) := ⟨by have := x.den_nz; omega, by
 have := x.reduced
 show Nat.gcd x.num.natAbs ((x.den : Int)).natAbs = 1
 exact this⟩
theorem rat_of {p q : Int} (f : Fra p q) : (Rat.divInt p q).num = p /\ ((Rat.divInt p q).den : Int) = q := by
 have hq := f.pos
 refine (znl (Rat.divInt p q)).uniq f ?_
 have e : Rat.divInt (Rat.divInt p q).num ((Rat.divInt p q).den : Int) = Rat.divInt p q := zci _
 exact (zif (by have := (Rat.divInt p q).den_nz; omega) (by omega)).mp e
theorem ydp {x : Rat} {p q : Int} (hq : q ≠ 0) : x = Rat.divInt p q ↔ x.num * q = p * (x.den : Int) := by
 conv => lhs; lhs; rw [<- zci x]
 exact zif (by have := x.den_nz; omega) hq
theorem yot {t b : Int} (h : b ≠ 0) : (Rat.divInt t b).num = low1 t b /\ ((Rat.divInt t b).den : Int) = low2 t b :=
 (znl _).uniq (yeo h) (by
  have e := (ydp (x := Rat.divInt t b) h).mp rfl
  have c := yep (t := t) h
  have f := (yeo (t := t) h).pos
  apply zfc h
  grind)
theorem yra (x y : Rat) : (x + y).num = add1 x.num x.den y.num y.den /\ ((x + y).den : Int) = add2 x.num x.den y.num y.den := by
 refine x0_2 (add_ok (znl x) (znl y)) fun f c => ?_
 refine (znl _).uniq f ?_
 have hx : (x.den : Int) ≠ 0 := by have := x.den_nz; omega
 have hy : (y.den : Int) ≠ 0 := by have := y.den_nz; omega
 have e : x + y = Rat.divInt (x.num * y.den + y.num * x.den) (x.den * y.den) := by
  conv => lhs; rw [<- zci x, <- zci y]
  exact zgc _ _ hx hy
 have e2 := (ydp (x := x + y) (zdr hx hy)).mp e
 apply zfc (zdr hx hy)
 grind
theorem yeh (x y : Rat) : x * y = Rat.divInt (x.num * y.num) (x.den * y.den) := by
 conv => lhs; rw [<- zci x, <- zci y]
 exact zis _ _
structure Sz (n : Nat) (x : Rat) : Prop where
 t : x.num.natAbs < 2 ^ n
 b : x.den < 2 ^ n
theorem zny {m n : Nat} (h : m <= n) : 2 ^ m <= 2 ^ n := zdg (by decide) h
theorem Sz.mono {m n : Nat} {x : Rat} (h : Sz m x) (k : m <= n) : Sz n x := ⟨zaq h.t (zny k), zaq h.b (zny k)⟩
theorem zsa {a b m n : Nat} (h : a < 2 ^ m) (k : b < 2 ^ n) : a * b < 2 ^ (m + n) := by
 rw [Nat.pow_add]
 exact Nat.mul_lt_mul'' h k
theorem zom {x : Rat} {p q : Int} {n : Nat} (hq : q ≠ 0) (e : x = Rat.divInt p q) (hp : p.natAbs < 2 ^ n) (hb : q.natAbs < 2 ^ n) : Sz n x := by
 refine x0_2 ((znl x).cross_le hq ((ydp hq).mp e)) fun a b => ?_
 exact ⟨Nat.lt_of_le_of_lt a hp, by have := b; omega⟩
theorem Sz.mul {m n : Nat} {x y : Rat} (hx : Sz m x) (hy : Sz n y) : Sz (m + n) (x * y) := by
 have a : (x.den : Int) ≠ 0 := by have := x.den_nz; omega
 have b : (y.den : Int) ≠ 0 := by have := y.den_nz; omega
 refine zom (zdr a b) (yeh x y) ?_ ?_
 ·rw [zed]; exact zsa hx.t hy.t
 ·rw [zed]; exact zsa hx.b hy.b
theorem Sz.add {m n : Nat} {x y : Rat} (hx : Sz m x) (hy : Sz n y) : Sz (m + n + 1) (x + y) := by
 have a : (x.den : Int) ≠ 0 := by have := x.den_nz; omega
 have b : (y.den : Int) ≠ 0 := by have := y.den_nz; omega
 have e : x + y = Rat.divInt (x.num * y.den + y.num * x.den) (x.den * y.den) := by
  conv => lhs; rw [<- zci x, <- zci y]
  exact zgc _ _ a b
 have t1 := zsa hx.t hy.b
 have t2 := zsa hy.t hx.b
 rw [ziw n m] at t2
 have t3 := zsa hx.b hy.b
 have p2 : 2 ^ (m + n + 1) = 2 ^ (m + n) + 2 ^ (m + n) := by rw [zhc]; omega
 refine zom (zdr a b) e ?_ ?_
 ·have h1 := Int.natAbs_add_le (x.num * y.den) (y.num * x.den)
  rw [zed, zed, zbp, zbp] at h1
  omega
 ·rw [zed, zbp, zbp]; omega
theorem Sz.neg {n : Nat} {x : Rat} (hx : Sz n x) : Sz n (-x) := ⟨by show (-x.num).natAbs < _; rw [Int.natAbs_neg]; exact hx.t, hx.b⟩
theorem Sz.sub {m n : Nat} {x y : Rat} (hx : Sz m x) (hy : Sz n y) : Sz (m + n + 1) (x - y) := by
 rw [Rat.sub_eq_add_neg]; exact hx.add hy.neg
theorem zvu {t b : Int} {n : Nat} (h : b ≠ 0) (ht : t.natAbs < 2 ^ n) (hb : b.natAbs < 2 ^ n) : Sz n (Rat.divInt t b) := zom h rfl ht hb
end Sf
namespace DL
noncomputable def zpk : Ss := (.cons (.asg 2 (.bi .abs (.cons (.var 0) .nil))) (.cons (.asg 3 (.bi .abs (.cons (.var 1) .nil))) (.cons (.whl (.cmp .ne (.var 3) (.int 0)) (.cons (.asg 4 (.bin .mod (.var 2) (.var 3))) (.cons (.asg 2 (.var 3)) (.cons (.asg 3 (.var 4)) .nil)))) (.cons (.retV 2) .nil))))
noncomputable def zvk : Ss := (.cons (.iff (.cmp .eq (.var 1) (.int 0)) (.cons .never .nil) .nil) (.cons (.asg 2 (.call 0 (.cons (.var 0) (.cons (.var 1) .nil)))) (.cons (.iff (.cmp .lt (.var 1) (.int 0)) (.cons (.asg 2 (.neg (.var 2))) .nil) .nil) (.cons (.ret (.tup (.cons (.bin .fdiv (.var 0) (.var 2)) (.cons (.bin .fdiv (.var 1) (.var 2)) .nil)))) .nil))))
noncomputable def zml : Ss := (.cons (.iff (.cmp .lt (.var 1) (.bi .len (.cons (.var 0) .nil))) (.cons (.ret (.ix (.var 0) (.var 1))) .nil) .nil) (.cons (.ret (.int 0)) .nil))
noncomputable def znn : Ss := (.cons (.ret (.and (.isi (.var 0) .int) (.not (.isi (.var 0) .bool)))) .nil)
noncomputable def yap : Ss := (.cons (.asg 2 (.call 0 (.cons (.ix (.var 0) (.int 1)) (.cons (.ix (.var 1) (.int 1)) .nil)))) (.cons (.asg 3 (.bin .add (.bin .mul (.ix (.var 0) (.int 0)) (.bin .fdiv (.ix (.var 1) (.int 1)) (.var 2))) (.bin .mul (.ix (.var 1) (.int 0)) (.bin .fdiv (.ix (.var 0) (.int 1)) (.var 2))))) (.cons (.asg 4 (.call 0 (.cons (.var 3) (.cons (.var 2) .nil)))) (.cons (.ret (.tup (.cons (.bin .fdiv (.var 3) (.var 4)) (.cons (.bin .mul (.bin .fdiv (.ix (.var 0) (.int 1)) (.var 2)) (.bin .fdiv (.ix (.var 1) (.int 1)) (.var 4))) .nil)))) .nil))))
noncomputable def zvj : Ss := (.cons (.ret (.call 1 (.cons (.bin .mul (.ix (.var 0) (.int 0)) (.ix (.var 1) (.int 0))) (.cons (.bin .mul (.ix (.var 0) (.int 1)) (.ix (.var 1) (.int 1))) .nil)))) .nil)
noncomputable def zmk : Ss := (.cons (.asg 0 (.bi .abs (.cons (.var 0) .nil))) (.cons (.asg 1 (.bi .abs (.cons (.var 1) .nil))) (.cons (.whl (.cmp .gt (.var 1) (.int 0)) (.cons (.par 0 1 (.var 1) (.bin .mod (.var 0) (.var 1))) .nil)) (.cons (.retV 0) .nil))))
noncomputable def zmz : Ss := (.cons (.asg 2 (.call 12 (.cons (.var 0) (.cons (.var 1) .nil)))) (.cons (.iff (.cmp .lt (.var 1) (.int 0)) (.cons (.asg 2 (.bin .sub (.int 0) (.var 2))) .nil) .nil) (.cons (.ret (.tup (.cons (.bin .fdiv (.var 0) (.var 2)) (.cons (.bin .fdiv (.var 1) (.var 2)) .nil)))) .nil)))
noncomputable def zlh : Ss := (.cons (.iff (.or (.not (.isi (.var 0) .tuple)) (.or (.cmp .ne (.bi .len (.cons (.var 0) .nil)) (.int 2)) (.or (.not (.call 3 (.cons (.ix (.var 0) (.int 0)) .nil))) (.not (.call 3 (.cons (.ix (.var 0) (.int 1)) .nil)))))) (.cons (.ret (.bl false)) .nil) .nil) (.cons (.ret (.and (.cmp .gt (.ix (.var 0) (.int 1)) (.int 0)) (.cmp .eq (.call 12 (.cons (.ix (.var 0) (.int 0)) (.cons (.ix (.var 0) (.int 1)) .nil))) (.int 1)))) .nil))
noncomputable def zvl : Ss := (.cons (.ret (.cmp .lt (.bin .mul (.ix (.var 0) (.int 0)) (.ix (.var 1) (.int 1))) (.bin .mul (.ix (.var 1) (.int 0)) (.ix (.var 0) (.int 1))))) .nil)
noncomputable def zly : Ss := (.cons (.asg 2 (.int 0)) (.cons (.iff (.cmp .lt (.bin .add (.int 1) (.bin .mod (.bin .fdiv (.var 1) (.int 8)) (.int 62))) (.bi .len (.cons (.var 0) .nil))) (.cons (.asg 2 (.bin .fdiv (.ix (.var 0) (.bin .add (.int 1) (.bin .mod (.bin .fdiv (.var 1) (.int 8)) (.int 62)))) (.bin .pow (.int 10) (.int 64)))) .nil) .nil) (.cons (.frr (.name 3) (.range1 (.bin .mod (.var 1) (.int 8))) (.cons (.asg 2 (.bin .fdiv (.var 2) (.int 2147483587))) .nil)) (.cons (.retV 2) .nil))))
noncomputable def zmr : Ss := (.cons (.asg 2 (.int 0)) (.cons (.iff (.cmp .gt (.bi .len (.cons (.var 0) .nil)) (.int 0)) (.cons (.asg 2 (.ix (.var 0) (.int 0))) .nil) .nil) (.cons (.iff (.and (.cmp .eq (.bin .mod (.bin .fdiv (.var 2) (.bin .pow (.int 10) (.int 6))) (.int 2)) (.int 1)) (.cmp .ne (.call 28 (.cons (.var 0) (.cons (.var 1) .nil))) (.int 0))) (.cons (.ret (.bin .mod (.call 28 (.cons (.var 0) (.cons (.var 1) .nil))) (.int 2147483587))) .nil) .nil) (.cons (.iff (.cmp .gt (.bi .len (.cons (.var 0) .nil)) (.int 0)) (.cons (.asg 2 (.ix (.var 0) (.bin .mod (.var 1) (.bi .min (.cons (.int 63) (.cons (.bi .len (.cons (.var 0) .nil)) .nil)))))) .nil) .nil) (.cons (.asg 3 (.bin .add (.bin .mod (.var 2) (.bin .pow (.int 10) (.int 18))) (.bin .mul (.int 48271) (.bin .add (.var 1) (.int 1))))) (.cons (.asg 3 (.bin .add (.bin .mod (.bin .mul (.var 3) (.var 3)) (.int 2147483629)) (.bin .mul (.int 69621) (.var 1)))) (.cons (.ret (.bin .mod (.bin .mul (.var 3) (.var 3)) (.int 2147483587))) .nil)))))))
noncomputable def zlm : Ss := (.cons (.unp [1, 2] (.var 0)) (.cons (.ret (.tup (.cons (.bin .mul (.ix (.var 1) (.int 0)) (.ix (.var 2) (.int 1))) (.cons (.bin .mul (.ix (.var 2) (.int 0)) (.ix (.var 1) (.int 1))) (.cons (.bin .mul (.ix (.var 1) (.int 1)) (.ix (.var 2) (.int 1))) .nil))))) .nil))
noncomputable def zls : Ss := (.cons (.asg 3 (.bin .mul (.ix (.var 0) (.int 0)) (.bin .sub (.bin .mul (.ix (.var 1) (.int 1)) (.ix (.var 2) (.int 2))) (.bin .mul (.ix (.var 2) (.int 1)) (.ix (.var 1) (.int 2)))))) (.cons (.asg 3 (.bin .sub (.var 3) (.bin .mul (.ix (.var 0) (.int 1)) (.bin .sub (.bin .mul (.ix (.var 1) (.int 0)) (.ix (.var 2) (.int 2))) (.bin .mul (.ix (.var 2) (.int 0)) (.ix (.var 1) (.int 2))))))) (.cons (.ret (.bin .add (.var 3) (.bin .mul (.ix (.var 0) (.int 2)) (.bin .sub (.bin .mul (.ix (.var 1) (.int 0)) (.ix (.var 2) (.int 1))) (.bin .mul (.ix (.var 2) (.int 0)) (.ix (.var 1) (.int 1))))))) .nil)))
noncomputable def zmb : Ss := (.cons (.iff (.cmp .ne (.bin .mul (.ix (.var 0) (.int 0)) (.ix (.var 1) (.int 2))) (.bin .mul (.ix (.var 1) (.int 0)) (.ix (.var 0) (.int 2)))) (.cons (.ret (.cmp .lt (.bin .mul (.ix (.var 0) (.int 0)) (.ix (.var 1) (.int 2))) (.bin .mul (.ix (.var 1) (.int 0)) (.ix (.var 0) (.int 2))))) .nil) .nil) (.cons (.ret (.cmp .lt (.bin .mul (.ix (.var 0) (.int 1)) (.ix (.var 1) (.int 2))) (.bin .mul (.ix (.var 1) (.int 1)) (.ix (.var 0) (.int 2))))) .nil))
noncomputable def zll : Ss := (.cons (.iff (.or (.not (.isi (.var 0) .list)) (.cmp .lt (.bi .len (.cons (.var 0) .nil)) (.int 3))) (.cons (.ret (.bl false)) .nil) .nil) (.cons (.frr (.name 1) (.seqV 0) (.cons (.iff (.or (.not (.isi (.var 1) .tuple)) (.cmp .ne (.bi .len (.cons (.var 1) .nil)) (.int 2))) (.cons (.ret (.bl false)) .nil) .nil) (.cons (.iff (.or (.not (.call 14 (.cons (.ix (.var 1) (.int 0)) .nil))) (.not (.call 14 (.cons (.ix (.var 1) (.int 1)) .nil)))) (.cons (.ret (.bl false)) .nil) .nil) .nil))) (.cons (.asg 2 (.comp (.call 30 (.cons (.var 1) .nil)) (.name 1) (.seqV 0) 2 [] .non)) (.cons (.frr (.name 3) (.range2 (.int 1) (.bi .len (.cons (.var 2) .nil))) (.cons (.iff (.not (.call 32 (.cons (.ix (.var 2) (.int 0)) (.cons (.ix (.var 2) (.var 3)) .nil)))) (.cons (.ret (.bl false)) .nil) .nil) .nil)) (.cons (.frr (.name 3) (.range1 (.bi .len (.cons (.var 2) .nil))) (.cons (.frr (.name 4) (.seqV 2) (.cons (.iff (.and (.cmp .ne (.var 4) (.ix (.var 2) (.var 3))) (.cmp .ne (.var 4) (.ix (.var 2) (.bin .sub (.var 3) (.int 1))))) (.cons (.iff (.cmp .le (.call 31 (.cons (.ix (.var 2) (.bin .sub (.var 3) (.int 1))) (.cons (.ix (.var 2) (.var 3)) (.cons (.var 4) .nil)))) (.int 0)) (.cons (.ret (.bl false)) .nil) .nil) .nil) .nil) .nil)) .nil)) (.cons (.ret (.bl true)) .nil))))))
noncomputable def zmh : Ss := (.cons (.asg 3 (.bin .mod (.call 29 (.cons (.var 0) (.cons (.var 1) .nil))) (.int 4))) (.cons (.asg 4 (.lst .nil)) (.cons (.frr (.name 5) (.range1 (.bin .add (.int 3) (.bin .mod (.call 29 (.cons (.var 0) (.cons (.bin .add (.var 1) (.int 1)) .nil))) (.bin .sub (.var 2) (.int 2))))) (.cons (.asg 6 (.call 29 (.cons (.var 0) (.cons (.bin .add (.bin .add (.var 1) (.int 2)) (.var 5)) .nil)))) (.cons (.asg 7 (.tup (.cons (.bin .sub (.bin .mod (.var 6) (.int 7)) (.int 3)) (.cons (.bin .sub (.bin .mod (.bin .fdiv (.var 6) (.int 7)) (.int 7)) (.int 3)) .nil)))) (.cons (.iff (.cmp .eq (.var 3) (.int 1)) (.cons (.asg 7 (.tup (.cons (.bin .sub (.bin .mod (.var 6) (.int 2001)) (.int 1000)) (.cons (.bin .sub (.bin .mod (.bin .fdiv (.var 6) (.int 2001)) (.int 2001)) (.int 1000)) .nil)))) .nil) .nil) (.cons (.iff (.cmp .eq (.var 3) (.int 2)) (.cons (.asg 7 (.tup (.cons (.bin .mod (.var 6) (.int 3)) (.cons (.bin .mod (.bin .fdiv (.var 6) (.int 3)) (.int 3)) .nil)))) .nil) .nil) (.cons (.app 4 (.var 7)) .nil)))))) (.cons (.unp [8, 9] (.ix (.var 4) (.int 0))) (.cons (.seti 4 (.neg (.int 2)) (.tup (.cons (.bin .add (.var 8) (.int 1)) (.cons (.bin .add (.var 9) (.bin .mod (.ix (.ix (.var 4) (.neg (.int 2))) (.int 1)) (.int 2))) .nil)))) (.cons (.seti 4 (.neg (.int 1)) (.tup (.cons (.bin .sub (.var 8) (.bin .mod (.ix (.ix (.var 4) (.neg (.int 1))) (.int 0)) (.int 2))) (.cons (.bin .add (.bin .add (.var 9) (.int 1)) (.bin .mod (.ix (.ix (.var 4) (.neg (.int 1))) (.int 1)) (.int 3))) .nil)))) (.cons (.retV 4) .nil)))))))
noncomputable def zlj : Ss := (.cons (.asg 3 (.bin .mul (.bin .sub (.ix (.var 1) (.int 0)) (.ix (.var 0) (.int 0))) (.bin .sub (.ix (.var 2) (.int 1)) (.ix (.var 0) (.int 1))))) (.cons (.ret (.bin .sub (.var 3) (.bin .mul (.bin .sub (.ix (.var 1) (.int 1)) (.ix (.var 0) (.int 1))) (.bin .sub (.ix (.var 2) (.int 0)) (.ix (.var 0) (.int 0)))))) .nil))
noncomputable def zlk : Ss := (.cons (.asg 1 (.lst .nil)) (.cons (.frr (.name 2) (.seq (.lst (.cons (.fm .ss (.cons (.var 0) .nil)) (.cons (.fm .rev (.cons (.fm .ss (.cons (.var 0) .nil)) .nil)) .nil)))) (.cons (.asg 3 (.lst .nil)) (.cons (.frr (.name 4) (.seqV 2) (.cons (.whl (.and (.cmp .gt (.bi .len (.cons (.var 3) .nil)) (.int 1)) (.cmp .le (.call 45 (.cons (.ix (.var 3) (.neg (.int 2))) (.cons (.ix (.var 3) (.neg (.int 1))) (.cons (.var 4) .nil)))) (.int 0))) (.cons (.pop 3) .nil)) (.cons (.app 3 (.var 4)) .nil))) (.cons (.asg 1 (.bin .add (.var 1) (.sl (.var 3) .non (.som (.neg (.int 1)))))) .nil)))) (.cons (.retV 1) .nil)))
noncomputable def zkw : Ss := (.cons (.asg 3 (.call 46 (.cons (.call 34 (.cons (.var 0) (.cons (.var 1) (.cons (.var 2) .nil)))) .nil))) (.cons (.asg 4 (.call 29 (.cons (.var 0) (.cons (.bin .add (.var 1) (.int 1)) .nil)))) (.cons (.asg 5 (.ix (.lst (.cons (.int 1) (.cons (.bin .add (.int 1) (.bin .mod (.bin .fdiv (.var 4) (.int 64)) (.int 9))) (.cons (.bin .add (.int 1) (.bin .mod (.call 2 (.cons (.var 0) (.cons (.var 1) .nil))) (.bin .pow (.int 10) (.int 9)))) .nil)))) (.bin .mod (.bin .fdiv (.var 4) (.int 16)) (.int 3)))) (.cons (.asg 6 (.ix (.lst (.cons (.int 1) (.cons (.bin .add (.int 1) (.bin .mod (.call 2 (.cons (.var 0) (.cons (.bin .add (.var 1) (.int 1)) .nil))) (.bin .pow (.int 10) (.int 9)))) .nil))) (.bin .mod (.bin .fdiv (.var 4) (.int 1024)) (.int 2)))) (.cons (.asg 7 (.ix (.lst (.cons (.int 0) (.cons (.bin .sub (.bin .mod (.call 2 (.cons (.var 0) (.cons (.bin .add (.var 1) (.int 2)) .nil))) (.bin .mul (.int 2) (.bin .pow (.int 10) (.int 18)))) (.bin .pow (.int 10) (.int 18))) .nil))) (.bin .mod (.bin .fdiv (.var 4) (.int 2048)) (.int 2)))) (.cons (.ret (.comp (.tup (.cons (.call 13 (.cons (.bin .add (.bin .mul (.var 1) (.var 3)) (.var 4)) (.cons (.var 5) .nil))) (.cons (.call 13 (.cons (.bin .sub (.bin .mul (.var 2) (.var 3)) (.bin .mul (.int 2) (.var 4))) (.cons (.var 5) .nil))) .nil))) (.tup [1, 2]) (.seqV 3) 3 [6, 7, 5] .non)) .nil))))))
noncomputable def zmg : Ss := (.cons (.asg 3 (.bin .mod (.call 29 (.cons (.var 0) (.cons (.var 1) .nil))) (.int 4))) (.cons (.asg 4 (.lst .nil)) (.cons (.frr (.name 5) (.range1 (.bin .add (.int 3) (.bin .mod (.call 29 (.cons (.var 0) (.cons (.bin .add (.var 1) (.int 1)) .nil))) (.bin .sub (.var 2) (.int 2))))) (.cons (.asg 6 (.call 29 (.cons (.var 0) (.cons (.bin .add (.bin .add (.var 1) (.int 2)) (.var 5)) .nil)))) (.cons (.asg 7 (.tup (.cons (.bin .sub (.bin .mod (.var 6) (.int 7)) (.int 3)) (.cons (.bin .sub (.bin .mod (.bin .fdiv (.var 6) (.int 7)) (.int 7)) (.int 3)) .nil)))) (.cons (.iff (.cmp .eq (.var 3) (.int 1)) (.cons (.asg 7 (.tup (.cons (.bin .sub (.bin .mod (.var 6) (.int 2001)) (.int 1000)) (.cons (.bin .sub (.bin .mod (.bin .fdiv (.var 6) (.int 2001)) (.int 2001)) (.int 1000)) .nil)))) .nil) .nil) (.cons (.iff (.cmp .eq (.var 3) (.int 2)) (.cons (.asg 7 (.tup (.cons (.bin .mod (.var 6) (.int 3)) (.cons (.bin .mod (.bin .fdiv (.var 6) (.int 3)) (.int 3)) .nil)))) .nil) .nil) (.cons (.app 4 (.var 7)) .nil)))))) (.cons (.unp [8, 9] (.ix (.var 4) (.int 0))) (.cons (.seti 4 (.neg (.int 2)) (.tup (.cons (.bin .add (.var 8) (.int 1)) (.cons (.bin .add (.var 9) (.bin .mod (.ix (.ix (.var 4) (.neg (.int 2))) (.int 1)) (.int 2))) .nil)))) (.cons (.seti 4 (.neg (.int 1)) (.tup (.cons (.bin .sub (.var 8) (.bin .mod (.ix (.ix (.var 4) (.neg (.int 1))) (.int 0)) (.int 2))) (.cons (.bin .add (.bin .add (.var 9) (.int 1)) (.bin .mod (.ix (.ix (.var 4) (.neg (.int 1))) (.int 1)) (.int 3))) .nil)))) (.cons (.retV 4) .nil)))))))
noncomputable def zog : Ss := (.cons (.ret (.comp (.call 67 (.cons (.var 1) (.cons (.var 2) .nil))) (.name 1) (.seqV 0) 2 [1] .non)) .nil)
noncomputable def zst : Ss := (.cons (.ret (.tup (.cons (.call 9 (.cons (.ix (.var 0) (.int 0)) (.cons (.ix (.var 1) (.int 0)) .nil))) (.cons (.call 9 (.cons (.ix (.var 0) (.int 1)) (.cons (.ix (.var 1) (.int 1)) .nil))) .nil)))) .nil)
noncomputable def zpy : Ss := (.cons (.iff (.cmp .le (.ix (.var 1) (.int 0)) (.int 0)) (.cons .never .nil) .nil) (.cons (.ret (.comp (.tup (.cons (.call 11 (.cons (.var 1) (.cons (.var 3) .nil))) (.cons (.call 11 (.cons (.var 2) (.cons (.var 3) .nil))) .nil))) (.tup [1, 2]) (.seqV 0) 3 [1] .non)) .nil))
noncomputable def zpj : Ss := (.cons (.ret (.call 71 (.cons (.comp (.tup (.cons (.tup (.cons (.neg (.ix (.var 1) (.int 0))) (.cons (.ix (.var 1) (.int 1)) .nil))) (.cons (.tup (.cons (.neg (.ix (.var 2) (.int 0))) (.cons (.ix (.var 2) (.int 1)) .nil))) .nil))) (.tup [1, 2]) (.seqV 0) 3 [] .non) .nil))) .nil)
noncomputable def zss : Ss := (.cons (.iff (.cmp .eq (.ix (.var 0) (.int 0)) (.ix (.var 1) (.int 0))) (.cons (.ret (.call 21 (.cons (.ix (.var 0) (.int 1)) (.cons (.ix (.var 1) (.int 1)) .nil)))) .nil) .nil) (.cons (.ret (.call 21 (.cons (.ix (.var 0) (.int 0)) (.cons (.ix (.var 1) (.int 0)) .nil)))) .nil))
noncomputable def zln : Ss := (.cons (.asg 1 (.int 0)) (.cons (.frr (.name 2) (.range1 (.bi .len (.cons (.var 0) .nil))) (.cons (.iff (.call 70 (.cons (.ix (.var 0) (.var 2)) (.cons (.ix (.var 0) (.var 1)) .nil))) (.cons (.asg 1 (.var 2)) .nil) .nil) .nil)) (.cons (.ret (.bin .add (.sl (.var 0) (.som (.var 1)) .non) (.sl (.var 0) .non (.som (.var 1))))) .nil)))
noncomputable def zlb : Ss := (.cons (.asg 2 (.call 29 (.cons (.var 0) (.cons (.var 1) .nil)))) (.cons (.asg 3 (.call 2 (.cons (.var 0) (.cons (.var 1) .nil)))) (.cons (.asg 4 (.call 13 (.cons (.bin .sub (.bin .mod (.var 2) (.int 41)) (.int 20)) (.cons (.bin .add (.int 1) (.bin .mod (.bin .fdiv (.var 2) (.int 41)) (.int 9))) .nil)))) (.cons (.asg 5 (.call 13 (.cons (.bin .sub (.bin .mod (.var 3) (.bin .mul (.int 2) (.bin .pow (.int 10) (.int 30)))) (.bin .pow (.int 10) (.int 30))) (.cons (.ix (.lst (.cons (.int 1) (.cons (.bin .add (.int 1) (.bin .mod (.var 3) (.bin .pow (.int 10) (.int 9)))) .nil))) (.bin .mod (.var 2) (.int 2))) .nil)))) (.cons (.ret (.ix (.lst (.cons (.tup (.cons (.var 4) (.cons (.var 5) .nil))) (.cons (.tup (.cons (.var 5) (.cons (.var 4) .nil))) (.cons (.tup (.cons (.var 4) (.cons (.var 4) .nil))) .nil)))) (.bin .mod (.bin .fdiv (.var 2) (.int 369)) (.int 3)))) .nil)))))
noncomputable def zms : Ss := (.cons (.ret (.call 13 (.cons (.bin .add (.bin .mul (.ix (.var 0) (.int 0)) (.ix (.var 1) (.int 1))) (.bin .mul (.ix (.var 1) (.int 0)) (.ix (.var 0) (.int 1)))) (.cons (.bin .mul (.ix (.var 0) (.int 1)) (.ix (.var 1) (.int 1))) .nil)))) .nil)
noncomputable def zlf : Ss := (.cons (.ret (.call 13 (.cons (.bin .mul (.ix (.var 0) (.int 0)) (.ix (.var 1) (.int 0))) (.cons (.bin .mul (.ix (.var 0) (.int 1)) (.ix (.var 1) (.int 1))) .nil)))) .nil)
noncomputable def zlg : Ss := (.cons (.asg 1 (.comp (.tup (.cons (.tup (.cons (.bin .sub (.int 0) (.ix (.var 1) (.int 0))) (.cons (.ix (.var 1) (.int 1)) .nil))) (.cons (.tup (.cons (.bin .sub (.int 0) (.ix (.var 2) (.int 0))) (.cons (.ix (.var 2) (.int 1)) .nil))) .nil))) (.tup [1, 2]) (.seqV 0) 3 [] .non)) (.cons (.frr (.name 2) (.range1 (.bi .len (.cons (.var 1) .nil))) (.cons (.asg 3 (.comp (.var 1) (.name 1) (.seqV 1) 2 [2, 1] (.som (.and (.cmp .ne (.var 1) (.ix (.var 3) (.var 2))) (.not (.call 32 (.cons (.call 30 (.cons (.ix (.var 3) (.var 2)) .nil)) (.cons (.call 30 (.cons (.var 1) .nil)) .nil)))))))) (.cons (.iff (.cmp .eq (.var 3) (.lst .nil)) (.cons (.ret (.bin .add (.sl (.var 1) (.som (.var 2)) .non) (.sl (.var 1) .non (.som (.var 2))))) .nil) .nil) .nil))) (.cons (.ret (.lst .nil)) .nil)))
noncomputable def zkx : Ss := (.cons (.iff (.or (.not (.call 33 (.cons (.var 0) .nil))) (.or (.cmp .ne (.var 0) (.var 1)) (.cmp .ne (.var 3) (.var 2)))) (.cons (.ret (.bl false)) .nil) .nil) (.cons (.app 0 (.tup (.cons (.tup (.cons (.int 0) (.cons (.int 1) .nil))) (.cons (.tup (.cons (.int 0) (.cons (.int 1) .nil))) .nil)))) (.cons (.ret (.cmp .eq (.var 3) (.var 2))) .nil)))
noncomputable def zne : Ss := (.cons (.asg 1 (.call 47 (.cons (.var 0) (.cons (.int 1) (.cons (.int 12) .nil))))) (.cons (.asg 2 (.call 72 (.cons (.var 0) (.cons (.int 50) .nil)))) (.cons (.asg 3 (.call 29 (.cons (.var 0) (.cons (.int 51) .nil)))) (.cons (.asg 4 (.call 13 (.cons (.bin .add (.int 1) (.bin .mod (.var 3) (.int 20))) (.cons (.bin .add (.int 1) (.bin .mod (.bin .fdiv (.var 3) (.int 20)) (.int 20))) .nil)))) (.cons (.iff (.cmp .eq (.bin .mod (.bin .fdiv (.var 3) (.int 400)) (.int 3)) (.int 1)) (.cons (.asg 4 (.call 13 (.cons (.bin .add (.int 1) (.bin .mod (.call 2 (.cons (.var 0) (.cons (.int 5) .nil))) (.bin .pow (.int 10) (.int 30)))) (.cons (.bin .add (.int 1) (.bin .mod (.call 2 (.cons (.var 0) (.cons (.int 6) .nil))) (.bin .pow (.int 10) (.int 9)))) .nil)))) .nil) .nil) (.cons (.asg 5 (.lcp (.var 1))) (.cons (.asg 6 (.comp (.tup (.cons (.call 73 (.cons (.var 1) (.cons (.ix (.var 3) (.int 0)) .nil))) (.cons (.call 73 (.cons (.var 2) (.cons (.ix (.var 3) (.int 1)) .nil))) .nil))) (.tup [1, 2]) (.seqV 1) 3 [2] .non)) (.cons (.asg 7 (.comp (.tup (.cons (.call 74 (.cons (.var 1) (.cons (.var 3) .nil))) (.cons (.call 74 (.cons (.var 2) (.cons (.var 3) .nil))) .nil))) (.tup [1, 2]) (.seqV 1) 3 [4] .non)) (.cons (.iff (.not (.callO 1035 (.call 66 (.cons (.var 5) (.cons (.var 2) .nil))) (.cons (.var 6) (.cons (.var 1) (.cons (.var 5) .nil))))) (.cons (.ret (.bl false)) .nil) .nil) (.cons (.iff (.not (.callO 1035 (.call 68 (.cons (.var 5) (.cons (.var 4) .nil))) (.cons (.var 7) (.cons (.var 1) (.cons (.var 5) .nil))))) (.cons (.ret (.bl false)) .nil) .nil) (.cons (.iff (.not (.callO 1035 (.call 69 (.cons (.var 5) .nil)) (.cons (.call 75 (.cons (.var 1) .nil)) (.cons (.var 1) (.cons (.var 5) .nil))))) (.cons (.ret (.bl false)) .nil) .nil) (.cons (.ret (.and (.cmp .eq (.call 69 (.cons (.call 69 (.cons (.var 1) .nil)) .nil)) (.var 1)) (.cmp .eq (.call 68 (.cons (.call 68 (.cons (.var 1) (.cons (.var 4) .nil))) (.cons (.tup (.cons (.ix (.var 4) (.int 1)) (.cons (.ix (.var 4) (.int 0)) .nil))) .nil))) (.var 1)))) .nil))))))))))))
end DL
namespace Hu
noncomputable abbrev Pt := Int × Int
noncomputable def cr (u v : Pt) : Int := u.1 * v.2 - u.2 * v.1
noncomputable def sb (b a : Pt) : Pt := (b.1 - a.1, b.2 - a.2)
noncomputable def o3 (a b c : Pt) : Int := cr (sb b a) (sb c a)
noncomputable def ps (u : Pt) : Prop := 0 < u.1 ∨ (u.1 = 0 /\ 0 < u.2)
noncomputable def lt (a b : Pt) : Prop := a.1 < b.1 ∨ (a.1 = b.1 /\ a.2 < b.2)
theorem zlu {a b : Pt} (h : lt a b) : ps (sb b a) := by
 unfold lt at h; unfold ps sb; dsimp only; omega
theorem lt_trans {a b c : Pt} (h : lt a b) (g : lt b c) : lt a c := by unfold lt at *; omega
theorem lt_irrefl (a : Pt) : ¬ lt a a := by unfold lt; omega
theorem lt_tri (a b : Pt) : lt a b ∨ a = b ∨ lt b a := by
 obtain ⟨a1, a2⟩ := a
 obtain ⟨b1, b2⟩ := b
 unfold lt
 simp only [Prod.mk.injEq]
 omega
theorem ypv (u v w : Pt) : cr u w * v.1 = cr u v * w.1 + cr v w * u.1 /\ cr u w * v.2 = cr u v * w.2 + cr v w * u.2 := by
 unfold cr; constructor <;> grind
theorem zws {a b : Int} (hb : 0 < b) (h : 0 <= a * b) : 0 <= a := by
 by_cases ha : 0 <= a
 ·exact ha
 ·have := Int.mul_neg_of_neg_of_pos (Int.not_le.mp ha) hb; omega
theorem ymo {u v w : Pt} (hu : ps u) (hv : ps v) (hw : ps w) (h1 : 0 <= cr u v) (h2 : 0 <= cr v w) : 0 <= cr u w := by
 refine x0_2 (ypv u v w) fun e1 e2 => ?_
 have u0 : 0 <= u.1 := by unfold ps at hu; omega
 have w0 : 0 <= w.1 := by unfold ps at hw; omega
 rcases hv with hv | ⟨hv1, hv2⟩
 ·exact zws hv (by rw [e1]; exact Int.add_nonneg (zep h1 w0) (zep h2 u0))
 ·-- v is upright: so is w
  have h3 : v.2 * w.1 <= 0 := by unfold cr at h2; rw [hv1] at h2; omega
  have hw1 : w.1 = 0 := by
   rcases zfj w0 with q | q
   ·have := zfu hv2 q; omega
   ·exact q.symm
  have hw2 : 0 < w.2 := by unfold ps at hw; omega
  have h4 : cr v w = 0 := by unfold cr; rw [hv1, hw1]; omega
  rw [h4, zgg, zjd] at e2
  exact zws hv2 (by rw [e2]; exact zep h1 (zcp hw2))
theorem znt (u v : Pt) : cr u v = - cr v u := by unfold cr; grind
theorem zyz {u v w : Pt} (hu : ps u) (hv : ps v) (hw : ps w) (h1 : 0 < cr u v) (h2 : 0 <= cr v w) : 0 < cr u w := by
 by_cases h : 0 < cr u w
 ·exact h
 ·have h3 : 0 <= cr w u := by rw [znt]; omega
  have := ymo hv hw hu h2 h3
  rw [znt] at this; omega
theorem yco {u v w : Pt} (hu : ps u) (hv : ps v) (hw : ps w) (h1 : 0 <= cr u v) (h2 : 0 < cr v w) : 0 < cr u w := by
 by_cases h : 0 < cr u w
 ·exact h
 ·have h3 : 0 <= cr w u := by rw [znt]; omega
  have := ymo hw hu hv h3 h1
  rw [znt] at this; omega
theorem zow (a b c : Pt) : o3 a b c = cr (sb b a) (sb c b) := by unfold o3 cr sb; grind
theorem o3_aa (a c : Pt) : o3 a a c = 0 := by unfold o3 cr sb; grind
theorem o3_ab (a b : Pt) : o3 a b b = 0 := by unfold o3 cr sb; grind
theorem o3_ba (a b : Pt) : o3 a b a = 0 := by unfold o3 cr sb; grind
inductive Chain : List Pt -> Prop where
 | one (a : Pt) : Chain [a]
 | two (a b : Pt) : lt a b -> Chain [b, a]
 | more (a b c : Pt) (r : List Pt) : Chain (b :: a :: r) -> lt b c -> 0 < o3 a b c -> Chain (c :: b :: a :: r)
noncomputable def Over (q : Pt) : List Pt -> Prop
 | b :: a :: r => 0 <= o3 a b q /\ Over q (a :: r)
 | _ => True
noncomputable def strictOver (q : Pt) : List Pt -> Prop
 | b :: a :: r => 0 < o3 a b q /\ strictOver q (a :: r)
 | _ => True
theorem Chain.tail {c b : Pt} {r : List Pt} (h : Chain (c :: b :: r)) : Chain (b :: r) := by
 cases h with
 | two a b h => exact .one _
 | more a b c r h _ _ => exact h
theorem Chain.lt {c b : Pt} {r : List Pt} (h : Chain (c :: b :: r)) : lt b c := by
 cases h with
 | two a b h => exact h
 | more a b c r h g _ => exact g
theorem Chain.ahead {p : Pt} : ∀ {b a : Pt} {r : List Pt}, Chain (b :: a :: r) -> Hu.lt b p -> 0 < o3 a b p -> strictOver p (b :: a :: r) := by
 intro b a r
 induction r generalizing a b with
 | nil => intro _ _ h; exact ⟨h, trivial⟩
 | cons z r ih =>
  intro h hp h0
  have hab := h.lt
  have ht := h.tail
  cases h with
  | more z a b r h2 hb hz =>
   have hza : Hu.lt z a := h2.lt
   refine ⟨h0, ih ht (lt_trans hab hp) ?_⟩
   have u := zlu hza
   have v := zlu hab
   have w := zlu hp
   rw [zow] at h0 hz ⊢
   have k1 : 0 < cr (sb a z) (sb p b) := zyz u v w hz (zcp h0)
   have e : cr (sb a z) (sb p a) = cr (sb a z) (sb b a) + cr (sb a z) (sb p b) := by unfold cr sb; grind
   rw [e]; omega
theorem strictOver.over {q : Pt} : ∀ {l : List Pt}, strictOver q l -> Over q l
 | [], _ => trivial
 | [_], _ => trivial
 | _ :: a :: r, h => ⟨zcp h.1, strictOver.over (l := a :: r) h.2⟩
noncomputable def popw (p : Pt) : List Pt -> List Pt
 | b :: a :: r => if o3 a b p <= 0 then popw p (a :: r) else b :: a :: r
 | l => l
noncomputable def bent (st : List Pt) : List Pt -> List Pt
 | [] => st
 | p :: r => bent (p :: popw p st) r
theorem Chain.allLt {c : Pt} : ∀ {r : List Pt}, Chain (c :: r) -> ∀ w ∈ r, Hu.lt w c := by
 intro r
 induction r generalizing c with
 | nil => intro _ w hw; cases hw
 | cons b r ih =>
  intro h w hw
  rcases zan.mp hw with e | e
  ·subst e; exact h.lt
  ·exact lt_trans (ih h.tail w e) h.lt
theorem pop_ok {S : List Pt} {p : Pt} (hS : ∀ q ∈ S, lt q p) : ∀ (st : List Pt) (t : Pt) (r : List Pt), st = t :: r -> Chain st -> (∀ q ∈ S, Over q st) -> (∀ w ∈ st, w ∈ S) -> (∀ q ∈ S, lt t q -> 0 <= o3 t p q) ->
  (∀ z, st.getLast? = some z -> ∀ q ∈ S, q = z ∨ lt z q) ->
  ∃ t' r', popw p st = t' :: r' /\ Chain (p :: t' :: r') /\ (∀ q ∈ S, Over q (p :: t' :: r')) /\ (∀ w ∈ t' :: r', w ∈ st) /\ (t' :: r').getLast? = st.getLast? := by
 intro st
 induction st with
 | nil => intro t r e; cases e
 | cons b st ih =>
  intro t r e hc ho hw hcov hl
  cases e
  cases st with
  | nil =>
   refine ⟨b, [], rfl, .two b p (hS b (hw b (by simp))), fun q hq => ⟨?_, trivial⟩, fun w h => h, rfl⟩
   rcases hl b rfl q hq with e | e
   ·subst e; rw [o3_ba]; exact zfv 0
   ·exact hcov q hq e
  | cons a r =>
   have hab : lt a b := hc.lt
   have hbp : lt b p := hS b (hw b (by simp))
   have hap : lt a p := lt_trans hab hbp
   by_cases h0 : o3 a b p <= 0
   ·obtain ⟨t', r', e1, e2, e3, e4, e5⟩ := ih a r rfl hc.tail (fun q hq => (ho q hq).2) (fun w h => hw w (zbl _ h)) (fun q hq haq => by
     have h1 := (ho q hq).1
     have h2 : 0 <= cr (sb p a) (sb b a) := by rw [znt]; unfold o3 at h0; omega
     exact ymo (zlu hap) (zlu hab) (zlu haq) h2 h1) (fun z hz => hl z (by rw [zfq]; exact hz))
    refine ⟨t', r', ?_, e2, e3, fun w h => zbl _ (e4 w h), ?_⟩
    ·rw [popw, if_pos h0]; exact e1
    ·rw [e5, zfq]
   ·have h0' : 0 < o3 a b p := Int.not_le.mp h0
    refine ⟨b, a :: r, by rw [popw, if_neg h0], .more a b p r hc hbp h0', fun q hq => ⟨?_, ho q hq⟩, fun w h => h, rfl⟩
    rcases lt_tri b q with e | e | e
    ·exact hcov q hq e
    ·subst e; rw [o3_ba]; exact zfv 0
    ·have h1 := (ho q hq).1
     rw [zow] at h1 h0'
     have k1 : 0 <= cr (sb b q) (sb b a) := by
      have e : cr (sb b q) (sb b a) = cr (sb b a) (sb q b) := by unfold cr sb; grind
      rw [e]; exact h1
     have k2 := yco (zlu e) (zlu hab) (zlu hbp) k1 h0'
     have e2 : o3 b p q = cr (sb b q) (sb p b) := by unfold o3 cr sb; grind
     rw [e2]; exact zcp k2
structure Good (S st : List Pt) : Prop where
 ch : Chain st
 ov : ∀ q ∈ S, Over q st
 sub : ∀ w ∈ st, w ∈ S
 hd : ∀ t, st.head? = some t -> ∀ q ∈ S, q = t ∨ lt q t
 ls : ∀ z, st.getLast? = some z -> ∀ q ∈ S, q = z ∨ lt z q
theorem Good.push {S st : List Pt} {p : Pt} (g : Good S st) (hS : ∀ q ∈ S, lt q p) : Good (p :: S) (p :: popw p st) := by
 obtain ⟨hc, ho, hw, hh, hl⟩ := g
 cases st with
 | nil => cases hc
 | cons t r =>
  obtain ⟨t', r', e1, e2, e3, e4, e5⟩ := pop_ok hS (t :: r) t r rfl hc ho hw (fun q hq h => by
   rcases hh t rfl q hq with e | e
   ·subst e; exact absurd h (lt_irrefl _)
   ·exact absurd (lt_trans h e) (lt_irrefl _)) hl
  rw [e1]
  refine ⟨e2, fun q hq => ?_, fun w h => ?_, fun z hz q hq => ?_, fun z hz q hq => ?_⟩
  ·rcases zan.mp hq with e | e
   ·subst e
    refine ⟨by rw [o3_ab]; exact zfv 0, ?_⟩
    cases e2 with
    | two a b h => trivial
    | more a b c r h1 h2 h3 => exact (h1.ahead h2 h3).over
   ·exact e3 q e
  ·rcases zan.mp h with e | e
   ·subst e; exact zca
   ·exact zbl _ (hw w (e4 w e))
  ·cases hz
   rcases zan.mp hq with e | e
   ·exact .inl e
   ·exact .inr (hS q e)
  ·rw [zfq, e5] at hz
   rcases zan.mp hq with e | e
   ·subst e
    have hz' : z ∈ S := hw z (zgi hz)
    exact .inr (hS z hz')
   ·exact hl z hz q e
theorem Good.start (p : Pt) : Good [p] [p] :=
 ⟨.one p, fun q _ => trivial, fun w h => h, fun t e q hq => by cases e; exact .inl (zaw.mp hq), fun t e q hq => by cases e; exact .inl (zaw.mp hq)⟩
theorem zxp : ∀ (l S st : List Pt), Good S st -> (∀ q ∈ S, ∀ p ∈ l, lt q p) -> l.Pairwise lt -> ∃ S', Good S' (bent st l) /\ ∀ x, x ∈ S' ↔ x ∈ S ∨ x ∈ l
 | [], S, st, g, _, _ => ⟨S, g, fun x => by simp⟩
 | p :: l, S, st, g, h, hp => by
  have hp' := zcf.mp hp
  obtain ⟨S', g', e⟩ := zxp l (p :: S) (p :: popw p st) (g.push fun q hq => h q hq p zca) (fun q hq y hy => by
   rcases zan.mp hq with e | e
   ·subst e; exact hp'.1 y hy
   ·exact h q e y (zbl _ hy)) hp'.2
  exact ⟨S', g', fun x => by rw [e x, zan, zan]; grind⟩
noncomputable def Edge (a b : Pt) (st : List Pt) : Prop := ∃ l1 l2, st = l1 ++ b :: a :: l2
theorem Chain.suffix : ∀ {l1 : List Pt} {b : Pt} {r : List Pt}, Chain (l1 ++ b :: r) -> Chain (b :: r)
 | [], _, _, h => h
 | [_], _, _, h => h.tail
 | x :: y :: l, b, r, h => Chain.suffix (l1 := y :: l) h.tail
theorem Over.edge {q : Pt} : ∀ {st : List Pt} {a b : Pt}, Over q st -> Edge a b st -> 0 <= o3 a b q
 | st, a, b, h, ⟨l1, l2, e⟩ => by
  subst e
  induction l1 with
  | nil => exact h.1
  | cons x l1 ih =>
   cases l1 with
   | nil => exact ih h.2
   | cons y l => exact ih h.2
theorem strictOver.edge {q : Pt} : ∀ {st : List Pt} {a b : Pt}, strictOver q st -> Edge a b st -> 0 < o3 a b q
 | st, a, b, h, ⟨l1, l2, e⟩ => by
  subst e
  induction l1 with
  | nil => exact h.1
  | cons x l1 ih =>
   cases l1 with
   | nil => exact ih h.2
   | cons y l => exact ih h.2
theorem Chain.strict {c : Pt} : ∀ {st : List Pt}, Chain (c :: st) -> strictOver c st
 | [], _ => trivial
 | [_], _ => trivial
 | b :: a :: r, h => by
  cases h with
  | more a b c r h1 h2 h3 => exact h1.ahead h2 h3
theorem Chain.back {b a : Pt} : ∀ {l2 : List Pt}, Chain (b :: a :: l2) -> ∀ c ∈ l2, 0 < cr (sb a c) (sb b a) := by
 intro l2
 induction l2 generalizing a b with
 | nil => intro _ c hc; cases hc
 | cons z l3 ih =>
  intro h c hc
  have hab := h.lt
  have h1 := h.tail
  cases h with
  | more z a b r h2 hb hz =>
   rw [zow] at hz
   rcases zan.mp hc with e | e
   ·subst e; exact hz
   ·have k := ih h1 c e
    have hza := h1.lt
    have hcz : Hu.lt c z := h1.tail.allLt c e
    have k2 := zyz (zlu hcz) (zlu hza) (zlu hab) k (zcp hz)
    have e2 : cr (sb a c) (sb b a) = cr (sb z c) (sb b a) + cr (sb a z) (sb b a) := by unfold cr sb; grind
    rw [e2]; omega
theorem Chain.convex {st : List Pt} {a b c : Pt} (h : Chain st) (e : Edge a b st) (hc : c ∈ st) (ha : c ≠ a) (hb : c ≠ b) : 0 < o3 a b c := by
 refine x2_1 e fun l1 l2 e => ?_
 subst e
 rcases zcc.mp hc with h1 | h1
 ·-- further on
  refine x2_1 (zfa h1) fun x y e => ?_
  subst e
  rw [zck, zec] at h
  exact (h.suffix).strict.edge ⟨y, l2, rfl⟩
 ·rcases zan.mp h1 with h2 | h2
  ·exact absurd h2 hb
  ·rcases zan.mp h2 with h3 | h3
   ·exact absurd h3 ha
   ·have k := (h.suffix).back c h3
    have e2 : o3 a b c = cr (sb a c) (sb b a) := by unfold o3 cr sb; grind
    rw [e2]; exact k
noncomputable def ng (a : Pt) : Pt := (-a.1, -a.2)
theorem zwr (a b c : Pt) : o3 (ng a) (ng b) (ng c) = o3 a b c := by unfold o3 cr sb ng; grind
theorem lt_ng {a b : Pt} : lt (ng a) (ng b) ↔ lt b a := by unfold lt ng; dsimp only; omega
theorem yoo (a : Pt) : ng (ng a) = a := by unfold ng; simp
theorem ztr {u m v : Pt} (hm : ps m) (h1 : cr u m = 0) (h2 : cr m v = 0) : cr u v = 0 := by
 refine x0_2 (ypv u m v) fun e1 e2 => ?_
 rw [h1, h2] at e1 e2
 simp only [zgg, zjd] at e1 e2
 rcases hm with h | ⟨_, h⟩
 ·rcases zgh.mp e1 with z | z
  ·exact z
  ·omega
 ·rcases zgh.mp e2 with z | z
  ·exact z
  ·omega
theorem yfi {a b c u : Pt} (h1 : lt a c) (h2 : lt c b) (h0 : o3 a b c = 0) (ga : 0 <= cr u (sb a c)) (gb : 0 <= cr u (sb b c)) : cr u (sb b c) = 0 := by
 have n := zlu h1
 have m := zlu h2
 have p0 : cr (sb c a) (sb b c) = 0 := by
  have e : cr (sb c a) (sb b c) = - o3 a b c := by unfold o3 cr sb; grind
  rw [e, h0]; rfl
 have ga' : cr u (sb c a) <= 0 := by
  have e : cr u (sb a c) = - cr u (sb c a) := by unfold cr sb; grind
  omega
 refine x0_2 (ypv u (sb c a) (sb b c)) fun e1 e2 => ?_
 rw [p0, zgg, zjd] at e1 e2
 generalize sb c a = n1 at *
 generalize sb b c = m1 at *
 rcases zfj gb with q | q
 ·exfalso
  have m0 : 0 <= m1.1 := by unfold ps at m; omega
  have n0 : 0 <= n1.1 := by unfold ps at n; omega
  have r1 : cr u n1 * m1.1 <= 0 := zgp ga' m0
  have l1 : 0 <= cr u m1 * n1.1 := zep gb n0
  have z : n1.1 = 0 := by
   rcases zfj n0 with k | k
   ·have := zfu q k; omega
   ·exact k.symm
  have n2 : 0 < n1.2 := by unfold ps at n; omega
  have l2 : 0 < cr u m1 * n1.2 := zfu q n2
  have m2 : m1.2 < 0 ∨ 0 <= m1.2 := by omega
  rcases m2 with k | k
  ·-- then m1.1 > 0 and so cr u n1 = 0
   have m3 : 0 < m1.1 := by unfold ps at m; omega
   have z2 : cr u n1 * m1.1 = 0 := by rw [<- e1, z, Int.mul_zero]
   rcases zgh.mp z2 with y | y
   ·rw [y, zgg] at e2; omega
   ·omega
  ·have := zgp ga' k; omega
 ·exact q.symm
theorem Edge.ng {a b : Pt} {st : List Pt} (e : Edge a b st) : Edge (ng a) (ng b) (st.map Hu.ng) := by
 refine x2_1 e fun l1 l2 e => ?_
 subst e
 exact ⟨l1.map Hu.ng, l2.map Hu.ng, by simp⟩
theorem Good.mem_last {S st : List Pt} (g : Good S st) : ∃ z, st.getLast? = some z /\ z ∈ st := by
 cases st with
 | nil => cases g.ch
 | cons a r => exact ⟨(a :: r).getLast (by simp), List.getLast?_eq_some_getLast (by simp), List.getLast_mem _⟩
theorem Good.mem_head {S st : List Pt} (g : Good S st) : ∃ z, st.head? = some z /\ z ∈ st := by
 cases st with
 | nil => cases g.ch
 | cons a r => exact ⟨a, rfl, zca⟩
theorem zuo {S : List Pt} {x y : Pt} (hx : x ∈ S) (hy : y ∈ S) (h1 : ∀ q ∈ S, q = x ∨ lt x q) (h2 : ∀ q ∈ S, q = y ∨ lt y q) : x = y := by
 rcases h1 y hy with e | e
 ·exact e.symm
 ·rcases h2 x hx with k | k
  ·exact k
  ·exact absurd (lt_trans e k) (lt_irrefl _)
theorem zup {S : List Pt} {x y : Pt} (hx : x ∈ S) (hy : y ∈ S) (h1 : ∀ q ∈ S, q = x ∨ lt q x) (h2 : ∀ q ∈ S, q = y ∨ lt q y) : x = y := by
 rcases h1 y hy with e | e
 ·exact e.symm
 ·rcases h2 x hx with k | k
  ·exact k
  ·exact absurd (lt_trans e k) (lt_irrefl _)
theorem zmo {a b : Pt} (h : ng a = ng b) : a = b := by rw [<- yoo a, h, yoo]
theorem yah {S st su : List Pt} (g : Good S st) (gu : Good (S.map ng) (su.map ng)) {c : Pt} (h : su.head? = some c ∨ su.getLast? = some c) : c ∈ st := by
 rcases h with h | h
 ·have hh : (su.map ng).head? = some (ng c) := by rw [zhy, h]; rfl
  have hm := gu.hd _ hh
  have hc : c ∈ S := by
   have := gu.sub (ng c) (zjt hh)
   refine x1_2 (zbd.mp this) fun y hy e => ?_
   rw [<- zmo e]; exact hy
  refine x1_2 (g.mem_last) fun z hz hzm => ?_
  have e : c = z := zuo hc (g.sub z hzm) (fun q hq => by
   rcases hm (ng q) (zbg hq) with k | k
   ·exact .inl (zmo k)
   ·exact .inr (lt_ng.mp k)) (g.ls z hz)
  rw [e]; exact hzm
 ·have hh : (su.map ng).getLast? = some (ng c) := by rw [zgw, h]; rfl
  have hm := gu.ls _ hh
  have hc : c ∈ S := by
   have := gu.sub (ng c) (zgi hh)
   refine x1_2 (zbd.mp this) fun y hy e => ?_
   rw [<- zmo e]; exact hy
  refine x1_2 (g.mem_head) fun z hz hzm => ?_
  have e : c = z := zup hc (g.sub z hzm) (fun q hq => by
   rcases hm (ng q) (zbg hq) with k | k
   ·exact .inl (zmo k)
   ·exact .inr (lt_ng.mp k)) (g.hd z hz)
  rw [e]; exact hzm
theorem zqc {S st su : List Pt} (g : Good S st) (gu : Good (S.map ng) (su.map ng)) {a b c : Pt} (e : Edge a b st) (hc : c ∈ su) (ha : c ≠ a) (hb : c ≠ b) : 0 < o3 a b c := by
 have cS : c ∈ S := by
  have := gu.sub (ng c) (zbg hc)
  refine x1_2 (zbd.mp this) fun y hy e => ?_
  rw [<- zmo e]; exact hy
 by_cases hin : c ∈ st
 ·exact g.ch.convex e hin ha hb
 ·have h0 := (g.ov c cS).edge e
  rcases zfj h0 with h0 | h0
  ·exact h0
  ·exfalso
   refine x2_1 (zfa hc) fun x y exy => ?_
   have hx : x ≠ [] := fun z => hin (yah g gu (.inl (by rw [exy, z]; rfl)))
   have hy : y ≠ [] := fun z => hin (yah g gu (.inr (by rw [exy, z]; simp)))
   obtain ⟨x', v, ex⟩ : ∃ x' v, x = x' ++ [v] := ⟨x.dropLast, x.getLast hx, (zdp hx).symm⟩
   obtain ⟨u, y', ey⟩ : ∃ u y', y = u :: y' := zht hy
   subst ex ey
   have e1 : Edge u c su := ⟨x' ++ [v], y', by rw [exy]⟩
   have e2 : Edge c v su := ⟨x', u :: y', by rw [exy]; simp⟩
   have tu : 0 < o3 u c v := by
    have h := gu.ch
    rw [exy] at h
    simp only [zbw, zba, zdb, zck, zec, zcm] at h
    have h := h.suffix
    cases h with
    | more a b c r h1 h2 h3 => rw [<- zwr]; exact h3
   have on1 : ∀ q ∈ S, 0 <= cr (sb c u) (sb q c) := fun q hq => by
    have := (gu.ov (ng q) (zbg hq)).edge e1.ng
    rw [zwr, zow] at this; exact this
   have on2 : ∀ q ∈ S, 0 <= cr (sb v c) (sb q c) := fun q hq => by
    have := (gu.ov (ng q) (zbg hq)).edge e2.ng
    rw [zwr] at this; exact this
   refine x2_1 (id e) fun l1 l2 est => ?_
   have aS : a ∈ S := g.sub a (by rw [est]; simp)
   have bS : b ∈ S := g.sub b (by rw [est]; simp)
   have hab : lt a b := by
    have h := g.ch
    rw [est] at h
    exact h.suffix.lt
   rcases lt_tri b c with k | k | k
   ·-- beyond b
    have hl1 : l1 ≠ [] := fun z => by
     subst z
     rcases g.hd b (by rw [est]; rfl) c cS with q | q
     ·exact hb q
     ·exact lt_irrefl _ (lt_trans k q)
    obtain ⟨l1', d, ed⟩ : ∃ l1' d, l1 = l1' ++ [d] := ⟨l1.dropLast, l1.getLast hl1, (zdp hl1).symm⟩
    subst ed
    have ebd : Edge b d st := ⟨l1', a :: l2, by rw [est]; simp⟩
    have h := g.ch
    rw [est] at h
    simp only [zck, zec, zcm] at h
    have h := h.suffix
    cases h with
    | more a b d r h1 hbd h3 =>
     have k1 := (g.ov c cS).edge ebd
     rw [zow] at h3 h0
     have := zyz (zlu hab) (zlu hbd) (zlu k) h3 k1
     omega
   ·exact hb k.symm
   ·rcases lt_tri c a with j | j | j
    ·-- ahead of a
     have hl2 : l2 ≠ [] := fun z => by
      subst z
      rcases g.ls a (by rw [est]; simp) c cS with q | q
      ·exact ha q
      ·exact lt_irrefl _ (lt_trans j q)
     obtain ⟨z, l2', ez⟩ : ∃ z l2', l2 = z :: l2' := zht hl2
     subst ez
     have eza : Edge z a st := ⟨l1 ++ [b], l2', by rw [est]; simp⟩
     have h := g.ch
     rw [est] at h
     have h := h.suffix
     have hza := h.tail.lt
     cases h with
     | more z a b r h1 hbd h3 =>
      have k1 := (g.ov c cS).edge eza
      rw [zow] at h3 k1
      have k2 : 0 <= cr (sb a c) (sb a z) := by
       have e : cr (sb a c) (sb a z) = cr (sb a z) (sb c a) := by unfold cr sb; grind
       rw [e]; exact k1
      have := yco (zlu j) (zlu hza) (zlu hab) k2 h3
      have e : o3 a b c = cr (sb a c) (sb b a) := by unfold o3 cr sb; grind
      omega
    ·exact ha j
    ·-- between
     have f1 := yfi j k h0.symm (on1 a aS) (on1 b bS)
     have f2 := yfi j k h0.symm (on2 a aS) (on2 b bS)
     have m := zlu k
     have : cr (sb c u) (sb v c) = 0 := ztr m f1 (by rw [znt, f2]; rfl)
     rw [zow] at tu
     omega
theorem Good.congr {S S' st : List Pt} (g : Good S st) (h : ∀ x, x ∈ S' ↔ x ∈ S) : Good S' st :=
 ⟨g.ch, fun q hq => g.ov q ((h q).mp hq), fun w hw => (h w).mpr (g.sub w hw), fun t e q hq => g.hd t e q ((h q).mp hq), fun t e q hq => g.ls t e q ((h q).mp hq)⟩
theorem ydr (p : Pt) : ∀ st : List Pt, (popw p st).map ng = popw (ng p) (st.map ng)
 | [] => rfl
 | [_] => rfl
 | b :: a :: r => by
  have ih := ydr p (a :: r)
  by_cases h : o3 a b p <= 0
  ·have h' : o3 (ng a) (ng b) (ng p) <= 0 := by rw [zwr]; exact h
   show (popw p (b :: a :: r)).map ng = popw (ng p) (ng b :: ng a :: r.map ng)
   rw [popw, if_pos h, popw, if_pos h']
   exact ih
  ·have h' : ¬ o3 (ng a) (ng b) (ng p) <= 0 := by rw [zwr]; exact h
   show (popw p (b :: a :: r)).map ng = popw (ng p) (ng b :: ng a :: r.map ng)
   rw [popw, if_neg h, popw, if_neg h']
   rfl
theorem ygi : ∀ (l st : List Pt), (bent st l).map ng = bent (st.map ng) (l.map ng)
 | [], st => rfl
 | p :: l, st => by
  show (bent (p :: popw p st) l).map ng = bent (ng p :: popw (ng p) (st.map ng)) (l.map ng)
  rw [ygi l, zba, ydr]
theorem yfd {l : List Pt} (h : l.Pairwise lt) (hn : l ≠ []) : Good l (bent [] l) := by
 cases l with
 | nil => exact absurd rfl hn
 | cons p r =>
  have hp := zcf.mp h
  obtain ⟨S', g, e⟩ := zxp r [p] [p] (Good.start p) (fun q hq y hy => by rw [zaw.mp hq]; exact hp.1 y hy) hp.2
  exact g.congr fun x => by rw [e x, zan, zaw]
theorem ypc {l : List Pt} (h : l.Pairwise lt) (hn : l ≠ []) : Good (l.map ng) ((bent [] l.reverse).map ng) := by
 rw [ygi]
 have hr : (l.reverse.map ng).Pairwise lt := by
  rw [zcv, zin]
  exact h.imp fun h => lt_ng.mpr h
 exact (yfd hr (by simpa using hn)).congr fun x => by simp
theorem zlx {st : List Pt} {i : Nat} {a b : Pt} (h1 : st.reverse[i]? = some a) (h2 : st.reverse[i + 1]? = some b) : Edge a b st := by
 refine x1_1 (zal.mp h1) fun hi ea => ?_
 refine x1_1 (zal.mp h2) fun hi2 eb => ?_
 have e1 : st.reverse = st.reverse.take i ++ a :: b :: st.reverse.drop (i + 2) := by
  conv => lhs; rw [<- zen i st.reverse]
  rw [zdd hi, ea, zdd hi2, eb]
 refine ⟨(st.reverse.drop (i + 2)).reverse, (st.reverse.take i).reverse, ?_⟩
 have e2 := congrArg List.reverse e1
 rw [List.reverse_reverse] at e2
 refine e2.trans ?_
 simp
noncomputable def ring (l : List Pt) : List Pt := (bent [] l).reverse.dropLast ++ (bent [] l.reverse).reverse.dropLast
theorem zsb : ∀ l : List Pt, (l.map ng).map ng = l
 | [] => rfl
 | x :: l => by rw [zba, zba, yoo, zsb l]
structure Both (l st su : List Pt) : Prop where
 g : Good l st
 gu : Good (l.map ng) (su.map ng)
theorem Both.turn {l st su : List Pt} (h : Both l st su) : Both (l.map ng) (su.map ng) (st.map ng) :=
 ⟨h.gu, by
  rw [zsb, zsb]; exact h.g⟩
theorem Both.over {l st su : List Pt} (h : Both l st su) {a b q : Pt} (e : Edge a b st ∨ Edge a b su) (hq : q ∈ l) : 0 <= o3 a b q := by
 rcases e with e | e
 ·exact (h.g.ov q hq).edge e
 ·have := (h.gu.ov (ng q) (zbg hq)).edge e.ng
  rw [zwr] at this; exact this
theorem Both.strict {l st su : List Pt} (h : Both l st su) {a b c : Pt} (e : Edge a b st ∨ Edge a b su) (hc : c ∈ st ∨ c ∈ su) (ha : c ≠ a) (hb : c ≠ b) : 0 < o3 a b c := by
 rcases e with e | e
 ·rcases hc with hc | hc
  ·exact h.g.ch.convex e hc ha hb
  ·exact zqc h.g h.gu e hc ha hb
 ·have ha' : ng c ≠ ng a := fun z => ha (zmo z)
  have hb' : ng c ≠ ng b := fun z => hb (zmo z)
  rw [<- zwr]
  rcases hc with hc | hc
  ·exact zqc h.turn.g h.turn.gu e.ng (zbg hc) ha' hb'
  ·exact h.gu.ch.convex e.ng (zbg hc) ha' hb'
theorem yqj {l : List Pt} (h : l.Pairwise lt) (hn : l ≠ []) : Both l (bent [] l) (bent [] l.reverse) := ⟨yfd h hn, ypc h hn⟩
theorem Chain.nodup : ∀ {st : List Pt}, Chain st -> st.Nodup
 | [], h => by cases h
 | c :: r, h => by
  refine zdh.mpr ⟨fun hm => lt_irrefl _ (h.allLt c hm), ?_⟩
  cases r with
  | nil => exact zhw
  | cons b r => exact Chain.nodup h.tail
theorem Both.inner {l st su : List Pt} (h : Both l st su) {c : Pt} (h1 : c ∈ st) (h2 : c ∈ su) : (∀ q ∈ l, q = c ∨ lt c q) ∨ (∀ q ∈ l, q = c ∨ lt q c) := by
 refine x2_1 (zfa h1) fun x y e => ?_
 cases x with
 | nil => exact .inr (h.g.hd c (by rw [e]; rfl))
 | cons x0 x1 =>
  cases y with
  | nil => exact .inl (h.g.ls c (by rw [e]; exact ziz))
  | cons a y' =>
   obtain ⟨x', b, ex⟩ : ∃ x' b, x0 :: x1 = x' ++ [b] := ⟨(x0 :: x1).dropLast, (x0 :: x1).getLast (by simp), (zdp _).symm⟩
   rw [ex] at e
   refine x2_1 (zfa h2) fun z t e2 => ?_
   cases z with
   | nil =>
    have := h.gu.hd (ng c) (by rw [e2]; rfl)
    exact .inl fun q hq => by
     rcases this (ng q) (zbg hq) with k | k
     ·exact .inl (zmo k)
     ·exact .inr (lt_ng.mp k)
   | cons z0 z1 =>
    cases t with
    | nil =>
     have := h.gu.ls (ng c) (by rw [e2, zbw]; exact ziz)
     exact .inr fun q hq => by
      rcases this (ng q) (zbg hq) with k | k
      ·exact .inl (zmo k)
      ·exact .inr (lt_ng.mp k)
    | cons u t' =>
     obtain ⟨z', v, ez⟩ : ∃ z' v, z0 :: z1 = z' ++ [v] := ⟨(z0 :: z1).dropLast, (z0 :: z1).getLast (by simp), (zdp _).symm⟩
     rw [ez] at e2
     exfalso
     have hc1 := h.g.ch
     rw [e] at hc1
     simp only [zck, zec, zcm] at hc1
     have hc1 := hc1.suffix
     have hac := hc1.tail.lt
     have hcb := hc1.lt
     have t1 : 0 < cr (sb c a) (sb b c) := by
      cases hc1 with
      | more a c b r k1 k2 k3 => rw [zow] at k3; exact k3
     have hc2 := h.gu.ch
     rw [e2] at hc2
     simp only [zbw, zba, zdb, zck, zec, zcm] at hc2
     have hc2 := hc2.suffix
     have huc := lt_ng.mp hc2.tail.lt
     have hcv := lt_ng.mp hc2.lt
     have t2 : 0 < cr (sb u c) (sb c v) := by
      cases hc2 with
      | more a' c' b' r k1 k2 k3 =>
       rw [zwr, zow] at k3
       have e : cr (sb u c) (sb c v) = cr (sb c u) (sb v c) := by unfold cr sb; grind
       rw [e]; exact k3
     have vl : v ∈ l := by
      refine x1_2 (zbd.mp (h.gu.sub (ng v) (by rw [e2]; simp))) fun y hy e => ?_
      rw [<- zmo e]; exact hy
     have ul : u ∈ l := by
      refine x1_2 (zbd.mp (h.gu.sub (ng u) (by rw [e2]; simp))) fun y hy e => ?_
      rw [<- zmo e]; exact hy
     have k1 := h.over (.inl ⟨x' ++ [b], y', by rw [e]⟩ : Edge a c st ∨ Edge a c su) vl
     have k2 := h.over (.inl ⟨x', a :: y', by rw [e]; simp⟩ : Edge c b st ∨ Edge c b su) ul
     have k1' : 0 <= cr (sb c v) (sb c a) := by
      have e : cr (sb c v) (sb c a) = o3 a c v := by unfold o3 cr sb; grind
      rw [e]; exact k1
     have k2' : 0 <= cr (sb b c) (sb u c) := k2
     have r1 := yco (zlu hcb) (zlu huc) (zlu hcv) k2' t2
     have r2 := zyz (zlu hcb) (zlu hcv) (zlu hac) r1 k1'
     rw [znt] at r2
     omega
theorem zqy {st : List Pt} {t : Pt} (h : st.head? = some t) : st.reverse[st.length - 1]? = some t := by
 cases st with
 | nil => cases h
 | cons a r => cases h; simp
theorem zns {st : List Pt} {t : Pt} (h : st.getLast? = some t) : st.reverse[0]? = some t := by
 rw [<- List.head?_eq_getElem?, List.head?_reverse]; exact h
structure Ends (l st su : List Pt) (lo hi : Pt) : Prop where
 b : Both l st su
 h1 : st.head? = some hi
 h2 : st.getLast? = some lo
 h3 : su.head? = some lo
 h4 : su.getLast? = some hi
 ne : lo ≠ hi
 lo_l : lo ∈ l
 hi_l : hi ∈ l
 least : ∀ q ∈ l, q = lo ∨ lt lo q
 most : ∀ q ∈ l, q = hi ∨ lt q hi
theorem yps {l : List Pt} (h : l.Pairwise lt) (h2 : 2 <= l.length) : ∃ lo hi, Ends l (bent [] l) (bent [] l.reverse) lo hi := by
 have hn : l ≠ [] := by intro z; subst z; simp at h2
 have b := yqj h hn
 refine x1_2 (b.g.mem_head) fun hi e1 m1 => ?_
 refine x1_2 (b.g.mem_last) fun lo e2 m2 => ?_
 have hl := b.g.sub lo m2
 have hh := b.g.sub hi m1
 have lo' := b.g.ls lo e2
 have hi' := b.g.hd hi e1
 obtain ⟨x, e3, m3⟩ : ∃ x, (bent [] l.reverse).head? = some x /\ x ∈ bent [] l.reverse := by
  refine x1_2 (b.gu.mem_head) fun z hz _ => ?_
  rw [zhy] at hz
  cases e : (bent [] l.reverse).head? with
  | none => rw [e] at hz; cases hz
  | some x => exact ⟨x, rfl, zjt e⟩
 obtain ⟨y, e4, m4⟩ : ∃ x, (bent [] l.reverse).getLast? = some x /\ x ∈ bent [] l.reverse := by
  refine x1_2 (b.gu.mem_last) fun z hz _ => ?_
  rw [zgw] at hz
  cases e : (bent [] l.reverse).getLast? with
  | none => rw [e] at hz; cases hz
  | some x => exact ⟨x, rfl, zgi e⟩
 have inl : ∀ c ∈ bent [] l.reverse, c ∈ l := fun c hc => by
  refine x1_2 (zbd.mp (b.gu.sub (ng c) (zbg hc))) fun y hy e => ?_
  rw [<- zmo e]; exact hy
 have ex : x = lo := zuo (inl x m3) hl (fun q hq => by
  rcases b.gu.hd (ng x) (by rw [zhy, e3]; rfl) (ng q) (zbg hq) with k | k
  ·exact .inl (zmo k)
  ·exact .inr (lt_ng.mp k)) lo'
 have ey : y = hi := zup (inl y m4) hh (fun q hq => by
  rcases b.gu.ls (ng y) (by rw [zgw, e4]; rfl) (ng q) (zbg hq) with k | k
  ·exact .inl (zmo k)
  ·exact .inr (lt_ng.mp k)) hi'
 subst ex ey
 refine ⟨x, y, b, e1, e2, e3, e4, fun z => ?_, hl, hh, lo', hi'⟩
 subst z
 match l, h, h2 with
 | p :: q :: r, h, _ =>
  have hpq := (zcf.mp h).1 q (by simp)
  have all : ∀ a ∈ p :: q :: r, a = x := fun a ha => by
   rcases lo' a ha with k | k
   ·exact k
   ·rcases hi' a ha with j | j
    ·exact j
    ·exact absurd (lt_trans k j) (lt_irrefl _)
  rw [all p (by simp), all q (by simp)] at hpq
  exact lt_irrefl _ hpq
theorem two_of {st : List Pt} {a b : Pt} (ha : st.head? = some a) (hb : st.getLast? = some b) (h : b ≠ a) : 2 <= st.length := by
 match st, ha, hb with
 | [x], ha, hb => cases ha; cases hb; exact absurd rfl h
 | x :: y :: r, _, _ => simp
theorem Ends.step {l st su : List Pt} {lo hi : Pt} (E : Ends l st su lo hi) {i : Nat} (hR : i < (st.reverse.dropLast ++ su.reverse.dropLast).length) {a b : Pt} (ha : (st.reverse.dropLast ++ su.reverse.dropLast)[i]? = some a)
  (hb : (st.reverse.dropLast ++ su.reverse.dropLast)[(i + 1) % (st.reverse.dropLast ++ su.reverse.dropLast).length]? = some b) : Edge a b st ∨ Edge a b su := by
 have n1 := two_of E.h1 E.h2 E.ne
 have n2 := two_of E.h3 E.h4 (zda E.ne)
 have l1 := zqy E.h1
 have l2 := zns E.h2
 have l3 := zqy E.h3
 have l4 := zns E.h4
 have len : (st.reverse.dropLast ++ su.reverse.dropLast).length = (st.length - 1) + (su.length - 1) := by simp
 rw [len] at hR hb
 have gU : ∀ j, j < st.length - 1 -> (st.reverse.dropLast ++ su.reverse.dropLast)[j]? = st.reverse[j]? := fun j hj => by
  rw [zax (by simpa using hj), zfw, if_pos (by simpa using hj)]
 have gV : ∀ j, j < su.length - 1 -> (st.reverse.dropLast ++ su.reverse.dropLast)[(st.length - 1) + j]? = su.reverse[j]? := fun j hj => by
  rw [zao (by simp), zfw]
  simp only [zcs, zbu, Nat.add_sub_cancel_left]
  rw [if_pos hj]
 by_cases c : i < st.length - 1
 ·left
  rw [gU i c] at ha
  by_cases c2 : i + 1 < st.length - 1
  ·rw [zbn (by omega), gU (i + 1) c2] at hb
   exact zlx ha hb
  ·have e : i + 1 = st.length - 1 := by omega
   rw [zbn (by omega), e] at hb
   have := gV 0 (by omega)
   rw [Nat.add_zero] at this
   rw [this, l4] at hb
   rw [<- e] at l1
   cases hb
   exact zlx ha l1
 ·right
  obtain ⟨j, rfl⟩ : ∃ j, i = (st.length - 1) + j := ⟨i - (st.length - 1), by omega⟩
  rw [gV j (by omega)] at ha
  by_cases c2 : j + 1 < su.length - 1
  ·rw [zbn (by omega), Nat.add_assoc, gV (j + 1) c2] at hb
   exact zlx ha hb
  ·have e : j + 1 = su.length - 1 := by omega
   have em : (st.length - 1 + j + 1) % (st.length - 1 + (su.length - 1)) = 0 := by
    rw [show st.length - 1 + j + 1 = st.length - 1 + (su.length - 1) by omega]; exact Nat.mod_self _
   rw [em, gU 0 (by omega), l2] at hb
   rw [<- e] at l3
   cases hb
   exact zlx ha l3
theorem zqx {st : List Pt} {c : Pt} (h : c ∈ st.reverse.dropLast) : c ∈ st := by
 have := (zfy _).subset h
 simpa using this
theorem zok {st : List Pt} (nd : st.Nodup) {t : Pt} (h : st.head? = some t) : t ∉ st.reverse.dropLast := by
 cases st with
 | nil => cases h
 | cons a r =>
  cases h
  rw [zbz, zjb]
  intro z
  exact (zdh.mp nd).1 (by simpa using z)
theorem ylo {l : List Pt} (h : l.Nodup) : l.reverse.Nodup := zin.mpr (h.imp fun k e => k e.symm)
structure RingOk (l R : List Pt) : Prop where
 over : ∀ i a b q, R[i]? = some a -> R[(i + 1) % R.length]? = some b -> q ∈ l -> 0 <= o3 a b q
 strict : ∀ i a b c, R[i]? = some a -> R[(i + 1) % R.length]? = some b -> c ∈ R -> c ≠ a -> c ≠ b -> 0 < o3 a b c
 sub : ∀ c ∈ R, c ∈ l
 nd : R.Nodup
 first : ∀ a, R[0]? = some a -> ∀ q ∈ l, q = a ∨ lt a q
 two : 2 <= R.length
 big : ∀ a b c, a ∈ l -> b ∈ l -> c ∈ l -> o3 a b c ≠ 0 -> 3 <= R.length
theorem yol {x y a b c : Pt} (h : lt x y) (ha : o3 x y a = 0) (hb : o3 x y b = 0) (hc : o3 x y c = 0) : o3 a b c = 0 := by
 have m := zlu h
 have k : ∀ p q : Pt, o3 x y p = 0 -> o3 x y q = 0 -> cr (sb y x) (sb q p) = 0 := fun p q h1 h2 => by
  have e : cr (sb y x) (sb q p) = o3 x y q - o3 x y p := by unfold o3 cr sb; grind
  rw [e, h1, h2]; rfl
 exact ztr m (by rw [znt, k a b ha hb]; rfl) (k a c ha hc)
theorem ring_ok {l : List Pt} (h : l.Pairwise lt) (h2 : 2 <= l.length) : RingOk l (ring l) := by
 refine x2_1 (yps h h2) fun lo hi E => ?_
 have n1 := two_of E.h1 E.h2 E.ne
 have n2 := two_of E.h3 E.h4 (zda E.ne)
 have inS : ∀ c ∈ ring l, c ∈ bent [] l ∨ c ∈ bent [] l.reverse := fun c hc => by
  rcases zcc.mp hc with k | k
  ·exact .inl (zqx k)
  ·exact .inr (zqx k)
 have inl : ∀ c ∈ bent [] l.reverse, c ∈ l := fun c hc => by
  refine x1_2 (zbd.mp (E.b.gu.sub (ng c) (zbg hc))) fun y hy e => ?_
  rw [<- zmo e]; exact hy
 have lt_of : ∀ {i : Nat} {a : Pt}, (ring l)[i]? = some a -> i < (ring l).length := fun e => (zal.mp e).1
 have nd2 : (bent [] l.reverse).Nodup := by
  have := E.b.gu.ch.nodup
  exact (zcv.mp this).imp fun {a b} h e => h (by rw [e])
 refine ⟨fun i a b q ha hb hq => E.b.over (E.step (lt_of ha) ha hb) hq, fun i a b c ha hb hc ca cb => E.b.strict (E.step (lt_of ha) ha hb) (inS c hc) ca cb, fun c hc => ?_, ?_, fun a ha => ?_, ?_, fun a b c ha hb hc ho => ?_⟩
 ·rcases inS c hc with k | k
  ·exact E.b.g.sub c k
  ·exact inl c k
 ·unfold ring
  refine zjs.mpr ⟨?_, ?_, fun c hc d hd e => ?_⟩
  ·exact (ylo E.b.g.ch.nodup).sublist (zfy _)
  ·exact (ylo nd2).sublist (zfy _)
  ·subst e
   have c1 := zqx hc
   have c2 := zqx hd
   rcases E.b.inner c1 c2 with k | k
   ·have : c = lo := zuo (E.b.g.sub c c1) E.lo_l k E.least
    subst this
    exact zok nd2 E.h3 hd
   ·have : c = hi := zup (E.b.g.sub c c1) E.hi_l k E.most
    subst this
    exact zok E.b.g.ch.nodup E.h1 hc
 ·have : (ring l)[0]? = some lo := by
   unfold ring
   rw [zax (by simp; omega), zfw, if_pos (by simp; omega)]
   exact zns E.h2
  rw [this] at ha
  cases ha
  exact E.least
 ·unfold ring; simp; omega
 ·by_cases hbig : 3 <= (ring l).length
  ·exact hbig
  ·exfalso
   have len : (ring l).length = ((bent [] l).length - 1) + ((bent [] l.reverse).length - 1) := by unfold ring; simp
   have e1 : (bent [] l).length = 2 := by omega
   have e2 : (bent [] l.reverse).length = 2 := by omega
   have d1 : Edge lo hi (bent [] l) := by
    refine zlx (i := 0) (zns E.h2) ?_
    have := zqy E.h1
    rw [e1] at this; exact this
   have d2 : Edge hi lo (bent [] l.reverse) := by
    refine zlx (i := 0) (zns E.h4) ?_
    have := zqy E.h3
    rw [e2] at this; exact this
   have z : ∀ q ∈ l, o3 lo hi q = 0 := fun q hq => by
    have k1 := E.b.over (.inl d1) hq
    have k2 := E.b.over (.inr d2) hq
    have e : o3 hi lo q = - o3 lo hi q := by unfold o3 cr sb; grind
    omega
   have hlt : lt lo hi := by
    rcases E.least hi E.hi_l with k | k
    ·exact absurd k.symm E.ne
    ·exact k
   exact ho (yol hlt (z a ha) (z b hb) (z c hc))
end Hu
namespace DL
open Sf
noncomputable def fr (x : Rat) : D := .tup [.int x.num, .int (x.den : Int)]
theorem ixf0 {z : Rat} : ixD (fr z) (.int 0) = some (.int z.num) := rfl
theorem ixf1 {z : Rat} : ixD (fr z) (.int 1) = some (.int (z.den : Int)) := rfl
theorem lff {z : Rat} : lf (fr z) = true := rfl
set_option hygiene false in
local macro_rules | `(tactic| walk_at "evh") => `(tactic| simp only [ydk, yph, yag, yhn, yhm, ex_asg, asgO_s, ex_unp, unpO_s, ex_par, parO_s, ex_ret, retO_s, ypj, ynm, ynl, ex_iff, iffO_t, iffO_f, ex_whl, ex_frr, forO_s, ypq, yne, ynd, ync, ybw, ynj, ybv, yni, ypr, yod, yoe, evB_eq,
 ev_var, ev_int, ev_bl, ev_bin, ev_neg, ev_cmp, ev_and, ev_or, ev_not, ev_tup, ev_lst, ev_ix, ev_sl, ypp, ev_bi, ev_isi, isiW_i, isiW_b, isiW_t, isiW_l, isiW_n, isxW_n, ex_app, appO_s, ex_pop, popO_s, clrO_s, ypi, ynb, ev_fm, ev_lcp, lcpW, yda, blkR, id_eq, ygg, ygf, zmy, setE_0, setE_s, ypo, ypn, yjr, yjs, seqB_l, seqB_t, seqB_o, seqD, ypk, yjp, ypm, ypl, evd, evb, bin2_s, un1_s, andO_t, andO_f, orO_t, orO_f, appL_s, ypx, slO_s, cmpW, ixW, negW, notW_s, tupW, lstW,
 varD_0, varD_s, yha, yci, zwf, zwe, zpe, ykj, zop, yqy, yqz, yqx, after, lfW, lf, lfL, Wd_v, Wd_n, Wb_v, Wb_n, Bd_s, Bd_o, DL.op_add, DL.op_sub, DL.op_mul, DL.op_fdiv, DL.op_mod, zuy, yjo, zyn, zkr, op_p6, op_p9, op_p18, eqL, eqD, dOkL, dOk, beq_self_eq_true, zgr, op_p30, op_p64, Int.reduceEq, Int.reduceLT, Int.reduceLE, Int.reduceNeg, Int.reduceAdd, Int.reduceSub, Int.reduceMul, Int.reduceToNat, Int.reducePow, Int.reduceMod, Int.reduceDiv, cs0, cs1, cs2, cs3, cs4, cs5, cs6, cs7, cs8, cs9, cs10, cs11, cs12, Nat.reduceSub, cm_lt, cm_le, cm_gt, cm_ge, cm_eq, cm_ne, cm_eqB, cm_neB, cm_eqT, cm_eqL, cm_in, cm_isN, yqg, biW, lenW, absW, minW, maxW, ixD_t, ixD_l, ixf0, ixf1, lff, slD_l, ypu, dInt_s, isTy, zxb,
 zba, zdb, zec, zcm, zdi, zah, zbq, List.getElem?_cons_zero, zch, List.set_cons_zero, List.set_cons_succ, zbv, zjp, zbj, zgv,
 List.replicate, if_true, if_false, Nat.reduceAdd, Nat.reduceSub, Nat.reduceLT, Nat.reduceLeDiff, zay, reduceCtorEq, decide_true, decide_false, zfr, zgk, zgq, zij, Bool.and_false, Bool.false_and, ne_eq, not_false_eq_true, and_self, and_true, true_and, Nat.reduceEqDiff, Nat.zero_ne_one, Nat.one_ne_zero, sl0, sl2, sl3, at1_0, at2_0, at2_1, at3_0, at3_1, at3_2, at4_0, at4_1, at4_2, at4_3, at5_0, at5_1, at5_2, at5_3, at5_4, at6_0, at6_1, at6_2, at6_3, at6_4, at6_5, *])
open Sf
noncomputable def asFr : D -> Option Rat
 | .tup [.int p, .int q] => if 0 < q /\ Int.gcd p q = 1 then some (Rat.divInt p q) else none
 | _ => none
theorem ygr (x : Rat) : asFr (fr x) = some x := by
 have f := znl x
 show (if 0 < (x.den : Int) /\ Int.gcd x.num (x.den : Int) = 1 then some (Rat.divInt x.num (x.den : Int)) else none) = some x
 rw [if_pos ⟨f.pos, f.co⟩, zci]
theorem zsv {d : D} {x : Rat} (h : asFr d = some x) : d = fr x := by
 unfold asFr at h
 split at h
 ·rename_i p q
  split at h
  ·rename_i z
   cases h
   refine x0_2 (rat_of ⟨z.1, z.2⟩) fun a b => ?_
   unfold fr
   rw [a, b]
  ·cases h
 ·cases h
noncomputable def okR (x : Rat) : Bool := decide (x.num.natAbs < 2 ^ 4400) && decide (x.den < 2 ^ 4400)
theorem ylm {n : Nat} {x : Rat} (h : Sz n x) (k : n <= 4400) : okR x = true := by
 have := h.mono k
 unfold okR
 rw [zaj]
 exact ⟨decide_eq_true this.t, decide_eq_true this.b⟩
theorem yll {x : Rat} (h : okR x = true) : Sz 4400 x := by
 unfold okR at h
 rw [zaj] at h
 exact ⟨of_decide_eq_true h.1, of_decide_eq_true h.2⟩
theorem zks {a b : Int} {m n : Nat} (ha : a.natAbs < 2 ^ m) (hb : b.natAbs < 2 ^ n) (hm : m <= 16000) (hn : n <= 16000) : zkz a b = true := by
 unfold zkz
 rw [zaj]
 exact ⟨decide_eq_true (zaq ha (zny hm)), decide_eq_true (zaq hb (zny hn))⟩
theorem zra {b : Int} {n : Nat} (h0 : b ≠ 0) (hb : b.natAbs < 2 ^ n) (hn : n <= 9000) : zqo b = true := by
 unfold zqo
 rw [zaj]
 exact ⟨decide_eq_true h0, decide_eq_true (zaq hb (zny hn))⟩
section
variable {Γ : Nat -> List D -> Option W}
noncomputable def zlr : List D -> Option W
 | [.int a, .int b] => some (.val (.int (gc a b)))
 | _ => none
theorem ych (a b : Option B) : ∀ (m : Nat) (n : Nat), n <= m -> ∀ (g : Int) (r : Option B), 0 <= g -> ∃ r', zky (evB Γ (.cmp .ne (.var 3) (.int 0))) (exs Γ (.cons (.asg 4 (.bin .mod (.var 2) (.var 3))) (.cons (.asg 2 (.var 3)) (.cons (.asg 3 (.var 4)) .nil)))) (m + 1)
  [a, b, some (.sh (.int g)), some (.sh (.int (n : Int))), r] = some (.nx [a, b, some (.sh (.int (gc g n))), some (.sh (.int 0)), r']) := by
 intro m
 induction m with
 | zero =>
  intro n hn g r hg
  obtain rfl : n = 0 := by omega
  refine ⟨r, ?_⟩
  unfold zky
  walk_at "evh"
  simp [zuu hg]
 | succ m ih =>
  intro n hn g r hg
  unfold zky
  walk_at "evh"
  by_cases h0 : n = 0
  ·subst h0
   refine ⟨r, ?_⟩
   simp [zuu hg]
  ·have h1 : ¬ ((n : Int) = 0) := by omega
   simp only [h1, decide_false, zgk, if_false]
   walk_at "evh"
   have e : g.fmod (n : Int) = ((g % (n : Int)).toNat : Int) := by
    rw [zdv _ (by omega)]
    have := zbf g h1
    omega
   have l : (g % (n : Int)).toNat <= m := by
    have := zbi g (show (0 : Int) < n by omega)
    have := zbf g h1
    omega
   refine x1_1 (ih _ l (n : Int) (some (.sh (.int ((g % (n : Int)).toNat : Int)))) (by omega)) fun r' q => ?_
   refine ⟨r', ?_⟩
   rw [e, q]
   have e2 : (((g % (n : Int)).toNat : Nat) : Int) = g % n := by have := zbf g h1; omega
   rw [e2, zym]
theorem zrf (b : Int) : (if b < 0 then -b else b) = ((b.natAbs : Nat) : Int) := by split <;> omega
theorem ok_divisor : ∀ ds w, ds.length = 2 -> zlr ds = some w -> run Γ zpk 5 ds = some w := by
 intro ds w _ h
 unfold zlr at h
 split at h
 ·rename_i a b _
  cases h
  unfold zpk
  walk_at "evh"
  refine x1_1 (ych (Γ := Γ) (some (.sh (.int a))) (some (.sh (.int b))) b.natAbs b.natAbs (zai _) (if a < 0 then -a else a) none (by split <;> omega)) fun r' q => ?_
  rw [zrf b, zoq q]
  walk_at "evh"
  rw [<- zrf b, ylv]
 ·cases h
theorem ztw : ∀ (m : Nat) (n : Nat), n <= m -> ∀ (g : Int), 0 <= g -> zky (evB Γ (.cmp .gt (.var 1) (.int 0))) (exs Γ (.cons (.par 0 1 (.var 1) (.bin .mod (.var 0) (.var 1))) .nil)) (m + 1)
  [some (.sh (.int g)), some (.sh (.int (n : Int)))] = some (.nx [some (.sh (.int (gc g n))), some (.sh (.int 0))]) := by
 intro m
 induction m with
 | zero =>
  intro n hn g hg
  obtain rfl : n = 0 := by omega
  unfold zky
  walk_at "evh"
  simp [zuu hg]
 | succ m ih =>
  intro n hn g hg
  unfold zky
  walk_at "evh"
  by_cases h0 : n = 0
  ·subst h0
   simp [zuu hg]
  ·have h1 : ¬ ((n : Int) = 0) := by omega
   have h2 : (0 : Int) < n := by omega
   simp only [h1, h2, decide_true, if_false]
   walk_at "evh"
   have e : g.fmod (n : Int) = ((g % (n : Int)).toNat : Int) := by
    rw [zdv _ (by omega)]
    have := zbf g h1
    omega
   have l : (g % (n : Int)).toNat <= m := by
    have := zbi g (show (0 : Int) < n by omega)
    have := zbf g h1
    omega
   have q := ih _ l (n : Int) (by omega)
   have e2 : (((g % (n : Int)).toNat : Nat) : Int) = g % n := by have := zbf g h1; omega
   rw [e2] at q
   first
    | (rw [e, e2, q, zym])
    | (rw [q, zym])
theorem ok_law_divisor : ∀ ds w, ds.length = 2 -> zlr ds = some w -> run Γ zmk 2 ds = some w := by
 intro ds w _ h
 unfold zlr at h
 split at h
 ·rename_i a b _
  cases h
  unfold zmk
  walk_at "evh"
  have q := ztw (Γ := Γ) b.natAbs b.natAbs (zai _) (if a < 0 then -a else a) (by split <;> omega)
  rw [zrf b, zoq q]
  walk_at "evh"
  rw [<- zrf b, ylv]
 ·cases h
end
set_option exponentiation.threshold 20000
open Sf
theorem zob {a b : Int} : zlr [.int a, .int b] = some (.val (.int (gc a b))) := rfl
section
variable {Γ : Nat -> List D -> Option W}
noncomputable def zlc : List D -> Option W
 | [.int t, .int b] => if b ≠ 0 /\ b.natAbs < 2 ^ 9000 then some (.val (fr (Rat.divInt t b))) else none
 | _ => none
theorem ype {t b : Int} (h : b ≠ 0) : (gc t b).natAbs <= b.natAbs := by
 have := zke t b
 exact zno this h
theorem yai {t b : Int} (h : b ≠ 0) (hb : b.natAbs < 2 ^ 9000) : zqo (gc t b) = true /\ zqo (-(gc t b)) = true := by
 have p := zsj (a := t) h
 have l := ype (t := t) h
 exact ⟨zra (n := 9000) (by omega) (by omega) (zai _), zra (n := 9000) (by omega) (by rw [Int.natAbs_neg]; omega) (zai _)⟩
theorem ylw {t b : Int} (h : b ≠ 0) : fr (Rat.divInt t b) = .tup [.int (low1 t b), .int (low2 t b)] := by
 refine x0_2 (yot (t := t) h) fun a c => ?_
 unfold fr
 rw [a, c]
theorem ok_ratio (h0 : Γ 0 = zlr) : ∀ ds w, ds.length = 2 -> zlc ds = some w -> run Γ zvk 3 ds = some w := by
 intro ds w _ h
 unfold zlc at h
 split at h
 ·rename_i t b _
  split at h
  ·rename_i z
   cases h
   unfold zvk
   walk_at "evh"
   try simp only [z.1, decide_false]
   try walk_at "evh"
   simp only [h0, zob]
   walk_at "evh"
   refine x0_2 (yai (t := t) z.1 z.2) fun g1 g2 => ?_
   rw [ylw z.1]
   unfold low1 low2 by_
   by_cases hb : b < 0
   ·simp only [hb, decide_true]
    walk_at "evh"
    try simp only [g2]
    try walk_at "evh"
   ·simp only [hb, decide_false]
    walk_at "evh"
    try simp only [g1]
    try walk_at "evh"
  ·cases h
 ·cases h
noncomputable def fr2 (C : Rat -> Rat -> Bool) (g : Rat -> Rat -> D) : List D -> Option W
 | [a, b] => match asFr a, asFr b with
  | some x, some y => if C x y = true then some (.val (g x y)) else none
  | _, _ => none
 | _ => none
theorem zux {C : Rat -> Rat -> Bool} {g : Rat -> Rat -> D} {ds : List D} {w : W} (h : fr2 C g ds = some w) : ∃ x y, ds = [fr x, fr y] /\ C x y = true /\ w = .val (g x y) := by
 unfold fr2 at h
 split at h
 ·split at h
  ·rename_i x y hx hy
   split at h
   ·rename_i z
    cases h
    exact ⟨x, y, by rw [zsv hx, zsv hy], z, rfl⟩
   ·cases h
  ·cases h
 ·cases h
theorem zto {C : Rat -> Rat -> Bool} {g : Rat -> Rat -> D} {x y : Rat} (h : C x y = true) : fr2 C g [fr x, fr y] = some (.val (g x y)) := by
 unfold fr2
 simp only [ygr, h, if_true]
noncomputable def okRR (x y : Rat) : Bool := okR x && okR y
theorem zpr {m n : Nat} {x y : Rat} (hx : Sz m x) (hy : Sz n y) (hm : m <= 4400) (hn : n <= 4400) : okRR x y = true := by
 unfold okRR; rw [ylm hx hm, ylm hy hn]; rfl
theorem zyb {x y : Rat} (h : okRR x y = true) : Sz 4400 x /\ Sz 4400 y := by
 unfold okRR at h
 rw [zaj] at h
 exact ⟨yll h.1, yll h.2⟩
noncomputable def zyf : List D -> Option W := fr2 okRR fun x y => fr (x + y)
noncomputable def zoy : List D -> Option W := fr2 okRR fun x y => fr (x * y)
noncomputable def zse : List D -> Option W := fr2 okRR fun x y => .bl (decide (x < y))
theorem zli (x : Rat) : (0 : Int) < x.den := (znl x).pos
theorem ok_plus (h0 : Γ 0 = zlr) : ∀ ds w, ds.length = 2 -> zyf ds = some w -> run Γ yap 5 ds = some w := by
 intro ds w _ h
 refine x2_3 (zux h) fun x y qz2 hC qz4 => ?_; subst qz2; subst qz4
 refine x0_2 (zyb hC) fun sx sy => ?_
 have px := zli x
 have py := zli y
 have hne : (y.den : Int) ≠ 0 := by omega
 have gp := zsj (a := (x.den : Int)) hne
 have gl := ype (t := (x.den : Int)) hne
 have e1 : ((y.den : Int)).natAbs = y.den := zbp _
 have d1 : zqo (gc x.den y.den) = true := zra (n := 4400) (by omega) (by have := sy.b; omega) (by decide)
 have hle : ∀ {p s : Int}, 0 < s -> (p.fdiv s).natAbs <= p.natAbs := fun {p s} hs => by
  rw [zfb _ (zcp hs)]
  have := Int.natAbs_ediv_le_natAbs p s
  exact this
 have l1 := hle (p := (y.den : Int)) gp
 have l2 := hle (p := (x.den : Int)) gp
 have e2 : ((x.den : Int)).natAbs = x.den := zbp _
 have m1 : zkz x.num ((y.den : Int).fdiv (gc x.den y.den)) = true := zks sx.t (n := 4400) (by have := sy.b; omega) (by decide) (by decide)
 have m2 : zkz y.num ((x.den : Int).fdiv (gc x.den y.den)) = true := zks sy.t (n := 4400) (by have := sx.b; omega) (by decide) (by decide)
 have hne2 : gc (x.den : Int) y.den ≠ 0 := by omega
 have rp := zsj (a := addT x.num x.den y.num y.den) hne2
 have rl := ype (t := addT x.num x.den y.num y.den) hne2
 have d2 : zqo (gc (addT x.num x.den y.num y.den) (gc x.den y.den)) = true := zra (n := 4400) (by omega) (by have := sy.b; omega) (by decide)
 have l3 := hle (p := (y.den : Int)) rp
 have m3 : zkz ((x.den : Int).fdiv (gc x.den y.den)) ((y.den : Int).fdiv (gc (addT x.num x.den y.num y.den) (gc x.den y.den))) = true := zks (m := 4400) (n := 4400) (by have := sx.b; omega) (by have := sy.b; omega) (by decide) (by decide)
 refine x0_2 (yra x y) fun q1 q2 => ?_
 have eT : x.num * (y.den : Int).fdiv (gc x.den y.den) + y.num * (x.den : Int).fdiv (gc x.den y.den) = addT x.num x.den y.num y.den := rfl
 have hd := @zob
 clear hC h px py sx sy hne gp gl hne2 rp rl l1 l2 l3 hle
 unfold yap
 simp only [fr]
 walk_at "evh"
 rfl
theorem ok_times (h1 : Γ 1 = zlc) : ∀ ds w, ds.length = 2 -> zoy ds = some w -> run Γ zvj 2 ds = some w := by
 intro ds w _ h
 refine x2_3 (zux h) fun x y qz2 hC qz4 => ?_; subst qz2; subst qz4
 refine x0_2 (zyb hC) fun sx sy => ?_
 have px := zli x
 have py := zli y
 have m1 : zkz x.num y.num = true := zks sx.t sy.t (by decide) (by decide)
 have m2 : zkz (x.den : Int) y.den = true := zks (m := 4400) (n := 4400) (by rw [zbp]; exact sx.b) (by rw [zbp]; exact sy.b) (by decide) (by decide)
 have hb : ((x.den : Int) * y.den).natAbs < 2 ^ 9000 := by
  rw [zed, zbp, zbp]
  exact zaq (zsa sx.b sy.b) (zny (by decide))
 have hne : (x.den : Int) * y.den ≠ 0 := zdr (by omega) (by omega)
 unfold zvj
 simp only [fr]
 walk_at "evh"
 try simp only [m1, m2]
 try walk_at "evh"
 have q : zlc [.int (x.num * y.num), .int ((x.den : Int) * y.den)] = some (.val (fr (x * y))) := by
  show (if _ then _ else _) = _
  rw [if_pos ⟨hne, hb⟩, <- yeh]
 simp only [h1, q]
 walk_at "evh"
 rfl
end
set_option exponentiation.threshold 20000
open Sf
section
variable {Γ : Nat -> List D -> Option W}
noncomputable def zmd : List D -> Option W
 | [.lst l, .int k] => if k < l.length then (L2.atI l k).map W.val else some (.val (.int 0))
 | _ => none
theorem ok_law_cell_at : ∀ ds w, ds.length = 2 -> zmd ds = some w -> run Γ zml 2 ds = some w := by
 intro ds w _ h
 unfold zmd at h
 split at h
 ·rename_i l k _
  unfold zml
  walk_at "evh"
  split at h
  ·rename_i z
   refine x1_2 (zab.mp h) fun d hd e => ?_
   subst e
   walk_at "evh"
  ·rename_i z
   cases h
   walk_at "evh"
 ·cases h
noncomputable def isInt : D -> Bool
 | .int _ => true
 | _ => false
noncomputable def zwu : List D -> Option W
 | [.exc _] => none
 | [d] => some (.val (.bl (isInt d)))
 | _ => none
theorem ok_law_whole : ∀ ds w, ds.length = 1 -> zwu ds = some w -> run Γ znn 1 ds = some w := by
 intro ds w _ h
 unfold zwu at h
 split at h
 ·cases h
 ·rename_i d hd _
  cases h
  unfold znn
  cases d with
  | exc x => exact absurd rfl (hd x)
  | _ => walk_at "evh"; rfl
 ·cases h
theorem yiu {i : Int} : zwu [.int i] = some (.val (.bl true)) := rfl
theorem ok_law_lowest (h12 : Γ 12 = zlr) : ∀ ds w, ds.length = 2 -> zlc ds = some w -> run Γ zmz 3 ds = some w := by
 intro ds w _ h
 unfold zlc at h
 split at h
 ·rename_i t b _
  split at h
  ·rename_i z
   cases h
   refine x0_2 (yai (t := t) z.1 z.2) fun g1 g2 => ?_
   have g3 : (0 : Int) - gc t b = -(gc t b) := by omega
   rw [ylw z.1]
   unfold low1 low2 by_ zmz
   have hd := @zob
   by_cases hb : b < 0
   ·walk_at "evh"
   ·walk_at "evh"
  ·cases h
 ·cases h
noncomputable def zwx : List D -> Option W
 | [d] => match asFr d with
  | some x => some (.val (.bl true))
  | none => none
 | _ => none
theorem zzt (x : Rat) : zwx [fr x] = some (.val (.bl true)) := by
 unfold zwx
 simp only [ygr]
theorem ok_law_is_fraction (h3 : Γ 3 = zwu) (h12 : Γ 12 = zlr) : ∀ ds w, ds.length = 1 -> zwx ds = some w -> run Γ zlh 1 ds = some w := by
 intro ds w _ h
 unfold zwx at h
 split at h
 ·split at h
  ·rename_i x hx
   cases h
   have hd := @zob
   have hw := @yiu
   have hp := zli x
   have e1 : gc x.num x.den = 1 := by
    show ((Int.gcd x.num x.den : Nat) : Int) = 1
    rw [(znl x).co]; rfl
   rw [zsv hx]
   clear hx
   unfold zlh
   simp only [fr]
   walk_at "evh"
  ·cases h
 ·cases h
end
set_option exponentiation.threshold 20000
open Sf
section
variable {Γ : Nat -> List D -> Option W}
theorem zmm {a b : Int} {m n : Nat} (h : a.natAbs < 2 ^ m) (k : b.natAbs < 2 ^ n) : (a * b).natAbs < 2 ^ (m + n) := by
 rw [zed]; exact zsa h k
end
set_option exponentiation.threshold 20000
open Sf
section
variable {Γ : Nat -> List D -> Option W}
theorem zod {ns : List Int} {k : Nat} : ∃ c, zmd [.lst (ns.map D.int), .int (k : Int)] = some (.val (.int c)) := by
 unfold zmd
 by_cases h : k < ns.length
 ·have hk : ((k : Int) < ((ns.map D.int).length : Nat)) := by rw [zad]; omega
  simp only [hk, if_true]
  refine ⟨ns[k], ?_⟩
  rw [L2.atI_nat (v := .int ns[k]) (by rw [zak, zae h]; rfl)]
  rfl
 ·have hk : ¬ ((k : Int) < ((ns.map D.int).length : Nat)) := by rw [zad]; omega
  simp only [hk, if_false]
  exact ⟨0, rfl⟩
end
open Sf
section
variable {Γ : Nat -> List D -> Option W}
end
open Sf
section
variable {Γ : Nat -> List D -> Option W}
end
open Sf
section
variable {Γ : Nat -> List D -> Option W}
end
open Sf
section
variable {Γ : Nat -> List D -> Option W}
theorem zkl {x : Rat} {n : Nat} (h : Sz n x) : ((x.den : Int)).natAbs < 2 ^ n := by rw [zbp]; exact h.b
theorem yiv (x y : Rat) : decide (x < y) = decide (x.num * (y.den : Int) < y.num * (x.den : Int)) := by
 rw [zex]
 simp only [decide_eq_true_eq]
 exact Rat.lt_iff x y
theorem ok_below : ∀ ds w, ds.length = 2 -> zse ds = some w -> run Γ zvl 2 ds = some w := by
 intro ds w _ h
 refine x2_3 (zux h) fun x y e hc hw => ?_
 subst e; subst hw
 refine x0_2 (zyb hc) fun sx sy => ?_
 have m1 : zkz x.num (y.den : Int) = true := zks sx.t (zkl sy) (by decide) (by decide)
 have m2 : zkz y.num (x.den : Int) = true := zks sy.t (zkl sx) (by decide) (by decide)
 rw [yiv]
 clear sx sy hc h
 unfold zvl
 walk_at "evh"
end
open Sf
section
variable {Γ : Nat -> List D -> Option W}
theorem znv {α : Type} {l : List α} {i : Int} (h0 : 0 <= i) (h1 : i < l.length) : L2.atI l i = l[i.toNat]? := by
 unfold L2.atI L2.ixN
 rw [if_pos h0, if_pos h1, zbj]
theorem zsu {α : Type} {l : List α} {i : Int} (h0 : i < 0) (h1 : -(l.length : Int) <= i) : L2.atI l i = l[(i + l.length).toNat]? := by
 unfold L2.atI L2.ixN
 rw [if_neg (by omega), if_pos h1, zbj]
theorem ygm {ns : List Int} {i : Int} (h0 : 0 <= i) (h1 : i < ns.length) : ∃ c, L2.atI (ns.map D.int) i = some (.int c) := by
 rw [znv h0 (by rw [zad]; exact h1)]
 have h : i.toNat < ns.length := by omega
 exact ⟨ns[i.toNat], by rw [zak, zae h]; rfl⟩
noncomputable def zqa : List D -> Option W := run (tab []) zly 4
theorem ok_law_block : ∀ ds w, ds.length = 2 -> zqa ds = some w -> run Γ zly 4 ds = some w := fun ds w _ h => zna [] (fun p hp => by cases hp) (by decide) ds w h
theorem zpu (s k : Option B) : ∀ (l : List D) (a : Int) (o : Option B), ∃ a' o', forN (zle (.name 3)) (exs Γ (.cons (.asg 2 (.bin .fdiv (.var 2) (.int 2147483587))) .nil)) l [s, k, some (.sh (.int a)), o] = some (.nx [s, k, some (.sh (.int a')), o'])
 | [], a, o => ⟨a, o, rfl⟩
 | d :: l, a, o => by
  refine x2_1 (zpu s k l (a / 2147483587) (some (.sh d))) fun a' o' q => ?_
  refine ⟨a', o', ?_⟩
  unfold forN
  walk_at "evh"
theorem ygd (ns : List Int) (k : Nat) : ∃ r : Int, run Γ zly 4 [.lst (ns.map D.int), .int (k : Int)] = some (.val (.int r)) := by
 have hk0 : (0 : Int) <= (k : Int) := by omega
 have e8 := zbf (k : Int) (show (8 : Int) ≠ 0 by decide)
 have e8' := zbi (k : Int) (show (0 : Int) < 8 by decide)
 have e62 := zbf ((k : Int) / 8) (show (62 : Int) ≠ 0 by decide)
 have hr : (-4611686018427387904 <= (k : Int) % 8 /\ (k : Int) % 8 < 4611686018427387904) = True := eq_true (by omega)
 unfold zly
 by_cases z : 1 + (k : Int) / 8 % 62 < (ns.length : Int)
 ·refine x1_1 (ygm (ns := ns) (i := 1 + (k : Int) / 8 % 62) (by omega) z) fun c hc => ?_
  refine x2_1 (zpu (Γ := Γ) (some (.sh (.lst (ns.map D.int)))) (some (.sh (.int (k : Int)))) (zld 0 ((k : Int) % 8).toNat) (c / 10000000000000000000000000000000000000000000000000000000000000000) none) fun a' o' q => ?_
  refine ⟨a', ?_⟩
  have zz : decide (1 + (k : Int) / 8 % 62 < ((ns.map D.int).length : Int)) = true := by rw [zad]; exact decide_eq_true z
  clear e8 e8' e62 hk0 z
  walk_at "evh"
 ·refine x2_1 (zpu (Γ := Γ) (some (.sh (.lst (ns.map D.int)))) (some (.sh (.int (k : Int)))) (zld 0 ((k : Int) % 8).toNat) 0 none) fun a' o' q => ?_
  refine ⟨a', ?_⟩
  have zz : decide (1 + (k : Int) / 8 % 62 < ((ns.map D.int).length : Int)) = false := by rw [zad]; exact decide_eq_false z
  clear e8 e8' e62 hk0 z
  walk_at "evh"
noncomputable def zlq : List D -> Option W := run (tab [(28, zqa)]) zmr 4
theorem ok_law_mixed (h28 : Γ 28 = zqa) : ∀ ds w, ds.length = 2 -> zlq ds = some w -> run Γ zmr 4 ds = some w := fun ds w _ h => zna [(28, zqa)] (by intro p hp; rcases zaw.mp hp with rfl; exact h28) (by decide) ds w h
theorem znc (ns : List Int) (k : Nat) (hk : k <= 1000) : ∃ r : Int, zlq [.lst (ns.map D.int), .int (k : Int)] = some (.val (.int r)) /\ 0 <= r /\ r < 2147483587 := by
 unfold zlq
 generalize hΓ : tab [(28, zqa)] = Γ
 have h28 : Γ 28 = zqa := by rw [<- hΓ]; rfl
 refine x1_1 (ygd (Γ := tab []) ns k) fun b hb => ?_
 have hb : zqa [.lst (ns.map D.int), .int (k : Int)] = some (.val (.int b)) := hb
 have fin : ∀ c : Int, ∃ r : Int, exs Γ (.cons (.asg 3 (.bin .add (.bin .mod (.var 2) (.bin .pow (.int 10) (.int 18))) (.bin .mul (.int 48271) (.bin .add (.var 1) (.int 1))))) (.cons (.asg 3 (.bin .add (.bin .mod (.bin .mul (.var 3) (.var 3)) (.int 2147483629)) (.bin .mul (.int 69621) (.var 1)))) (.cons (.ret (.bin .mod (.bin .mul (.var 3) (.var 3)) (.int 2147483587))) .nil))) [some (.sh (.lst (ns.map D.int))), some (.sh (.int (k : Int))), some (.sh (.int c)), none] = some (.rt (.val (.int r))) /\ 0 <= r /\ r < 2147483587 := by
  intro c
  have a0 := zbf c (show (1000000000000000000 : Int) ≠ 0 by decide)
  have a1 := zbi c (show (0 : Int) < 1000000000000000000 by decide)
  have m1 : zkz 48271 ((k : Int) + 1) = true := zkr (by decide) (by decide) (by omega) (by omega)
  have m2 : zkz (c % 1000000000000000000 + 48271 * ((k : Int) + 1)) (c % 1000000000000000000 + 48271 * ((k : Int) + 1)) = true := zkr (by omega) (by omega) (by omega) (by omega)
  have m3 : zkz 69621 (k : Int) = true := zkr (by decide) (by decide) (by omega) (by omega)
  generalize hq : (c % 1000000000000000000 + 48271 * ((k : Int) + 1)) * (c % 1000000000000000000 + 48271 * ((k : Int) + 1)) = q1
  have b0 := zbf q1 (show (2147483629 : Int) ≠ 0 by decide)
  have b1 := zbi q1 (show (0 : Int) < 2147483629 by decide)
  have m4 : zkz (q1 % 2147483629 + 69621 * (k : Int)) (q1 % 2147483629 + 69621 * (k : Int)) = true := zkr (by omega) (by omega) (by omega) (by omega)
  refine ⟨(q1 % 2147483629 + 69621 * (k : Int)) * (q1 % 2147483629 + 69621 * (k : Int)) % 2147483587, ?_, zbf _ (by decide), zbi _ (by decide)⟩
  clear a0 a1 b0 b1
  walk_at "evh"
 unfold zmr
 cases ns with
 | nil =>
  refine x1_2 (fin 0) fun r h1 h2 => ?_
  refine ⟨r, ?_, h2⟩
  clear fin h2
  simp only [zdb] at hb h1
  walk_at "evh"
 | cons n0 ns =>
  have l0 : (0 : Int) < (((n0 :: ns).map D.int).length : Int) := by rw [zad, zah]; omega
  have l0' : decide ((0 : Int) < (((n0 :: ns).map D.int).length : Int)) = true := decide_eq_true l0
  have a0 : L2.atI ((n0 :: ns).map D.int) 0 = some (.int n0) := by
   rw [znv (zfv _) l0]
   rfl
  generalize hL : (n0 :: ns).map D.int = L at *
  have low : ∃ r : Int, exs Γ (.cons (.iff (.cmp .gt (.bi .len (.cons (.var 0) .nil)) (.int 0)) (.cons (.asg 2 (.ix (.var 0) (.bin .mod (.var 1) (.bi .min (.cons (.int 63) (.cons (.bi .len (.cons (.var 0) .nil)) .nil)))))) .nil) .nil) (.cons (.asg 3 (.bin .add (.bin .mod (.var 2) (.bin .pow (.int 10) (.int 18))) (.bin .mul (.int 48271) (.bin .add (.var 1) (.int 1))))) (.cons (.asg 3 (.bin .add (.bin .mod (.bin .mul (.var 3) (.var 3)) (.int 2147483629)) (.bin .mul (.int 69621) (.var 1)))) (.cons (.ret (.bin .mod (.bin .mul (.var 3) (.var 3)) (.int 2147483587))) .nil)))) [some (.sh (.lst L)), some (.sh (.int (k : Int))), some (.sh (.int n0)), none] = some (.rt (.val (.int r))) /\ 0 <= r /\ r < 2147483587 := by
   generalize hm : (if (L.length : Int) < 63 then (L.length : Int) else 63) = m
   have hm0 : 0 < m := by rw [<- hm]; split <;> omega
   have hmL : m <= L.length := by rw [<- hm]; split <;> omega
   have c0 := zbf (k : Int) (show m ≠ 0 by omega)
   have c1 := zbi (k : Int) hm0
   have hmz : (m = 0) = False := eq_false (by omega)
   have fm : (k : Int).fmod m = (k : Int) % m := zuy hm0
   have hLl : L.length = (n0 :: ns).length := by rw [<- hL, zad]
   refine x1_1 (ygm (ns := n0 :: ns) (i := (k : Int) % m) c0 (by rw [<- hLl]; omega)) fun c hc => ?_
   rw [hL] at hc
   refine x1_2 (fin c) fun r h1 h2 => ?_
   refine ⟨r, ?_, h2⟩
   clear h2 fin c0 c1 hm0 hmL hb a0 hL l0 hLl
   walk_at "evh"
  by_cases z : n0 / 1000000 % 2 = 1
  ·by_cases z2 : b = 0
   ·refine x1_2 low fun r h1 h2 => ?_; clear low
    refine ⟨r, ?_, h2⟩
    subst z2
    clear fin h2 hL l0
    rw [ydk, yag]
    walk_at "evh"
   ·refine ⟨b % 2147483587, ?_, zbf _ (by decide), zbi _ (by decide)⟩
    clear low fin hL l0
    walk_at "evh"
  ·refine x1_2 low fun r h1 h2 => ?_; clear low
   refine ⟨r, ?_, h2⟩
   clear fin h2 hL l0
   walk_at "evh"
end
open Sf
noncomputable def pD (p : Int × Int) : D := .tup [.int p.1, .int p.2]
theorem yix (p : Int × Int) : lf (pD p) = true := rfl
theorem pD_ix0 {p : Int × Int} : ixD (pD p) (.int 0) = some (.int p.1) := rfl
theorem pD_ix1 {p : Int × Int} : ixD (pD p) (.int 1) = some (.int p.2) := rfl
structure Bd (n : Int) (p : Int × Int) : Prop where
 a : -n <= p.1
 b : p.1 <= n
 c : -n <= p.2
 d : p.2 <= n
structure Pts (ps : List (Int × Int)) : Prop where
 three : 3 <= ps.length
 bd : ∀ p ∈ ps, Bd 2000 p
 left : ∃ o p q, o ∈ ps /\ p ∈ ps /\ q ∈ ps /\ 0 < (p.1 - o.1) * (q.2 - o.2) - (p.2 - o.2) * (q.1 - o.1)
theorem Bd.up {p : Int × Int} (h : Bd 1000 p) : Bd 2000 p := by
 obtain ⟨a, b, c, d⟩ := h
 exact ⟨by omega, by omega, by omega, by omega⟩
theorem Bd.nx {p : Int × Int} {x y : Int} (h : Bd 1000 p) (hx : -2 <= x /\ x <= 2) (hy : -4 <= y /\ y <= 4) : Bd 2000 (p.1 + x, p.2 + y) := by
 obtain ⟨a, b, c, d⟩ := h
 exact ⟨by show _ <= _; omega, by show _ <= _; omega, by show _ <= _; omega, by show _ <= _; omega⟩
theorem em2 (a : Int) : 0 <= a % 2 /\ a % 2 < 2 := by omega
theorem em3 (a : Int) : 0 <= a % 3 /\ a % 3 < 3 := by omega
theorem bdm {n a b : Int} {c : Int} (h0 : 0 < n) (h1 : n <= 2001) (h2 : 0 <= c) (h3 : c <= 1000) (h4 : n - 1 - c <= 1000) : Bd 1000 (a % n - c, b % n - c) := by
 have a0 := zbf a (show n ≠ 0 by omega)
 have a1 := zbi a h0
 have b0 := zbf b (show n ≠ 0 by omega)
 have b1 := zbi b h0
 exact ⟨by show _ <= _; omega, by show _ <= _; omega, by show _ <= _; omega, by show _ <= _; omega⟩
theorem left3 {a b x y z : Int} (hx : 0 <= x) (hy : 0 <= y) (hz : 0 <= z) : 0 < (a + 1 - a) * (b + 1 + z - b) - (b + x - b) * (a - y - a) := by
 rw [show a + 1 - a = 1 by omega, show b + 1 + z - b = 1 + z by omega, show b + x - b = x by omega, show a - y - a = -y by omega, Int.mul_neg, Int.one_mul]
 have := zep hx hy
 omega
section
variable {Γ : Nat -> List D -> Option W}
noncomputable def znr : List D -> Option W := run (tab [(29, zlq)]) zmh 10
theorem zpq (h29 : Γ 29 = zlq) : ∀ ds w, ds.length = 3 -> znr ds = some w -> run Γ zmh 10 ds = some w := fun ds w _ h => zna [(29, zlq)] (by intro p hp; rcases zaw.mp hp with rfl; exact h29) (by decide) ds w h
theorem ok_law_points_k14 (h29 : Γ 29 = zlq) : ∀ ds w, ds.length = 3 -> znr ds = some w -> run Γ zmg 10 ds = some w := zpq h29
noncomputable abbrev zpw : Ss := (.cons (.asg 6 (.call 29 (.cons (.var 0) (.cons (.bin .add (.bin .add (.var 1) (.int 2)) (.var 5)) .nil)))) (.cons (.asg 7 (.tup (.cons (.bin .sub (.bin .mod (.var 6) (.int 7)) (.int 3)) (.cons (.bin .sub (.bin .mod (.bin .fdiv (.var 6) (.int 7)) (.int 7)) (.int 3)) .nil)))) (.cons (.iff (.cmp .eq (.var 3) (.int 1)) (.cons (.asg 7 (.tup (.cons (.bin .sub (.bin .mod (.var 6) (.int 2001)) (.int 1000)) (.cons (.bin .sub (.bin .mod (.bin .fdiv (.var 6) (.int 2001)) (.int 2001)) (.int 1000)) .nil)))) .nil) .nil) (.cons (.iff (.cmp .eq (.var 3) (.int 2)) (.cons (.asg 7 (.tup (.cons (.bin .mod (.var 6) (.int 3)) (.cons (.bin .mod (.bin .fdiv (.var 6) (.int 3)) (.int 3)) .nil)))) .nil) .nil) (.cons (.app 4 (.var 7)) .nil)))))
theorem ymx (h29 : Γ 29 = zlq) (ns : List Int) (s way : Int) (k : Nat) (i : Nat) (hs : s + 2 + (i : Int) = (k : Int)) (hk : k <= 1000) (l : List D) (hl : l.length < 1000) (m a b c d : Option B) :
  ∃ (p : Int × Int) (a' b' : Option B), Bd 1000 p /\ exs Γ zpw [some (.sh (.lst (ns.map D.int))), some (.sh (.int s)), m, some (.sh (.int way)), some (.ow l), some (.sh (.int (0 + (i : Int)))), a, b, c, d]
   = some (.nx [some (.sh (.lst (ns.map D.int))), some (.sh (.int s)), m, some (.sh (.int way)), some (.ow (l ++ [pD p])), some (.sh (.int (0 + (i : Int)))), a', b', c, d]) := by
 refine x1_3 (znc ns k hk) fun r hr r0 r1 => ?_
 have hz : (l.length < PySem.sizeLine) = True := eq_true (by rw [zbh]; omega)
 rw [<- hs] at hr
 have e0 : (0 : Int) + (i : Int) = (i : Int) := by omega
 rw [e0]
 by_cases w1 : way = 1
 ·subst w1
  refine ⟨(r % 2001 - 1000, r / 2001 % 2001 - 1000), some (.sh (.int r)), some (.sh (.tup [.int (r % 2001 - 1000), .int (r / 2001 % 2001 - 1000)])), bdm (by decide) (by decide) (by decide) (by decide) (by decide), ?_⟩
  clear hs hk hl e0 r0 r1
  unfold zpw pD
  walk_at "evh"
 ·by_cases w2 : way = 2
  ·subst w2
   refine ⟨(r % 3, r / 3 % 3), some (.sh (.int r)), some (.sh (.tup [.int (r % 3), .int (r / 3 % 3)])), by have := bdm (n := 3) (a := r) (b := r / 3) (c := 0) (by decide) (by decide) (by decide) (by decide) (by decide); rw [Int.sub_zero, Int.sub_zero] at this; exact this, ?_⟩
   clear hs hk hl e0 r0 r1 w1
   unfold zpw pD
   walk_at "evh"
  ·refine ⟨(r % 7 - 3, r / 7 % 7 - 3), some (.sh (.int r)), some (.sh (.tup [.int (r % 7 - 3), .int (r / 7 % 7 - 3)])), bdm (by decide) (by decide) (by decide) (by decide) (by decide), ?_⟩
   clear hs hk hl e0 r0 r1
   unfold zpw pD
   walk_at "evh"
theorem yeq (h29 : Γ 29 = zlq) (ns : List Int) (s : Nat) (way : Int) (hs : s <= 500) (m c d : Option B) : ∀ (is : List Nat) (ps : List (Int × Int)) (o a b : Option B), (∀ i ∈ is, i <= 400) -> ps.length + is.length <= 400 -> (∀ p ∈ ps, Bd 1000 p) ->
  ∃ (qs : List (Int × Int)) (o' a' b' : Option B), qs.length = ps.length + is.length /\ (∀ p ∈ qs, Bd 1000 p) /\ forN (zle (.name 5)) (exs Γ zpw) (is.map fun (i : Nat) => D.int (0 + (i : Int))) [some (.sh (.lst (ns.map D.int))), some (.sh (.int (s : Int))), m, some (.sh (.int way)), some (.ow (ps.map pD)), o, a, b, c, d]
   = some (.nx [some (.sh (.lst (ns.map D.int))), some (.sh (.int (s : Int))), m, some (.sh (.int way)), some (.ow (qs.map pD)), o', a', b', c, d])
 | [], ps, o, a, b, _, _, hp => ⟨ps, o, a, b, rfl, hp, rfl⟩
 | i :: is, ps, o, a, b, hi, hl, hp => by
  rw [zah] at hl
  refine x3_2 (ymx h29 ns (s : Int) way (s + 2 + i) i (by omega) (by have := hi i (.head _); omega) (ps.map pD) (by rw [zad]; omega) m a b c d) fun p a1 b1 hb he => ?_
  obtain ⟨qs, o', a', b', q1, q2, q3⟩ := yeq h29 ns s way hs m c d is (ps ++ [p]) (some (.sh (.int (0 + (i : Int))))) a1 b1 (fun j hj => hi j (.tail _ hj)) (by rw [zap]; simp only [zah, zbq]; omega) (fun x hx => by
   rcases zcc.mp hx with hx | hx
   ·exact hp x hx
   ·rw [zaw.mp hx]; exact hb)
  refine ⟨qs, o', a', b', by rw [q1, zap, zah]; simp only [zah, zbq]; omega, q2, ?_⟩
  rw [zba]
  unfold forN
  simp only [zpe, zwe, zwf, zbv]
  rw [he]
  rw [zbw] at q3
  exact q3
theorem ynr (ns : List Int) (s m : Nat) (hs : s <= 500) (hm : 3 <= m) (hm2 : m <= 100) : ∃ ps : List (Int × Int), znr [.lst (ns.map D.int), .int (s : Int), .int (m : Int)] = some (.new (ps.map pD)) /\ ps.length <= m /\ Pts ps := by
 unfold znr
 generalize hΓ : tab [(29, zlq)] = Γ
 have h29 : Γ 29 = zlq := by rw [<- hΓ]; rfl
 refine x1_3 (znc ns s (by omega)) fun r hr r0 r1 => ?_
 refine x1_3 (znc ns (s + 1) (by omega)) fun t ht t0 t1 => ?_
 have e1 : (((s + 1 : Nat)) : Int) = (s : Int) + 1 := by omega
 rw [e1] at ht
 have m0 : (0 : Int) < (m : Int) - 2 := by omega
 have u0 := zbf t (show (m : Int) - 2 ≠ 0 by omega)
 have u1 := zbi t m0
 generalize hN : (3 + t % ((m : Int) - 2)).toNat = N
 have N3 : 3 <= N := by omega
 have Nm : N <= m := by omega
 obtain ⟨qs, o', a', b', q1, q2, q3⟩ := yeq (Γ := Γ) h29 ns s (r % 4) hs (some (.sh (.int (m : Int)))) none none (List.range N) [] none none none (fun i hi => by have := zcl.mp hi; omega) (by rw [zbq, zej]; omega) (fun p hp => by cases hp)
 rw [zbq, zej, zff] at q1
 have hl : (qs.map pD).length = N := by rw [zad, q1]
 obtain ⟨p0, hp0⟩ : ∃ p, qs[0]? = some p := ⟨_, zae (by omega)⟩
 obtain ⟨p1, hp1⟩ : ∃ p, qs[N - 2]? = some p := ⟨_, zae (by omega)⟩
 obtain ⟨p2, hp2⟩ : ∃ p, qs[N - 1]? = some p := ⟨_, zae (by omega)⟩
 have A0 : L2.atI (qs.map pD) 0 = some (pD p0) := by
  rw [znv (zfv _) (by omega), zak]
  show ((qs[0]?).map pD) = _
  rw [hp0]; rfl
 have A1 : L2.atI (qs.map pD) (-2) = some (pD p1) := by
  rw [zsu (by decide) (by omega), zak, hl, show ((-2 : Int) + (N : Int)).toNat = N - 2 by omega, hp1]; rfl
 have I1 : L2.ixN (qs.map pD).length (-2) = some (N - 2) := by
  unfold L2.ixN
  rw [if_neg (by decide), if_pos (by omega), hl, show ((-2 : Int) + (N : Int)).toNat = N - 2 by omega]
 have d0 := q2 p0 (zar hp0)
 have d1 := q2 p1 (zar hp1)
 have d2 := q2 p2 (zar hp2)
 generalize hx1 : p1.2 % 2 = x1
 generalize hx2 : p2.1 % 2 = x2
 generalize hx3 : p2.2 % 3 = x3
 have y1 : 0 <= x1 /\ x1 < 2 := by rw [<- hx1]; exact em2 _
 have y2 : 0 <= x2 /\ x2 < 2 := by rw [<- hx2]; exact em2 _
 have y3 : 0 <= x3 /\ x3 < 3 := by rw [<- hx3]; exact em3 _
 have hl2 : ((qs.map pD).set (N - 2) (.tup [.int (p0.1 + 1), .int (p0.2 + x1)])).length = N := by rw [zcd, hl]
 have A2 : L2.atI ((qs.map pD).set (N - 2) (.tup [.int (p0.1 + 1), .int (p0.2 + x1)])) (-1) = some (pD p2) := by
  rw [zsu (by decide) (by omega), hl2, show ((-1 : Int) + (N : Int)).toNat = N - 1 by omega, zbm (by omega), zak, hp2]; rfl
 have I2 : L2.ixN ((qs.map pD).set (N - 2) (.tup [.int (p0.1 + 1), .int (p0.2 + x1)])).length (-1) = some (N - 1) := by
  unfold L2.ixN
  rw [if_neg (by decide), if_pos (by omega), hl2, show ((-1 : Int) + (N : Int)).toNat = N - 1 by omega]
 refine ⟨(qs.set (N - 2) (p0.1 + 1, p0.2 + x1)).set (N - 1) (p0.1 - x2, p0.2 + 1 + x3), ?_, by rw [zcd, zcd]; omega, ⟨by rw [zcd, zcd]; omega, fun p hp => ?_, p0, (p0.1 + 1, p0.2 + x1), (p0.1 - x2, p0.2 + 1 + x3), ?_, ?_, ?_, ?_⟩⟩
 ·rw [List.map_set, List.map_set]
  have hr4 : (-4611686018427387904 <= 3 + t % ((m : Int) - 2) /\ 3 + t % ((m : Int) - 2) < 4611686018427387904) = True := eq_true (by omega)
  have mz : ((m : Int) - 2 = 0) = False := eq_false (by omega)
  have fm : t.fmod ((m : Int) - 2) = t % ((m : Int) - 2) := zuy m0
  have i0 := @pD_ix0
  have i1 := @pD_ix1
  have rg : zld 0 N = (List.range N).map fun (i : Nat) => D.int (0 + (i : Int)) := rfl
  have bt : zle (.tup [8, 9]) (pD p0) = zop [8, 9] [.int p0.1, .int p0.2] := rfl
  have lfp := yix p0
  rw [zdb] at q3
  unfold zpw at q3
  clear hΓ r0 r1 t0 t1 e1 m0 u0 u1 N3 Nm q2 q1 hl hp0 hp1 hp2 d0 d1 d2 y1 y2 y3 hl2 hs hm hm2
  unfold zmh
  walk_at "evh"
  rfl
 ·rcases zhx hp with hp | hp
  ·rcases zhx hp with hp | hp
   ·exact (q2 p hp).up
   ·subst hp
    clear q3 A0 A1 A2 I1 I2 hr ht hl2 hp0 hp1 hp2 q2
    exact d0.nx (by decide) (by omega)
  ·subst hp
   clear q3 A0 A1 A2 I1 I2 hr ht hl2 hp0 hp1 hp2 q2
   have := d0.nx (x := -x2) (y := 1 + x3) (by omega) (by omega)
   rw [<- Int.add_assoc] at this
   exact this
 ·refine zar (i := 0) ?_
  rw [zbm (by omega), zbm (by omega), hp0]
 ·refine zar (i := N - 2) ?_
  rw [zbm (by omega), zbx (by omega)]
 ·refine zar (i := N - 1) ?_
  rw [zbx (by rw [zcd]; omega)]
 ·exact left3 y1.1 y2.1 y3.1
end
open Sf
noncomputable def kP (p : Int × Int) : List Int := [p.1, p.2]
noncomputable def pK : List Int -> Int × Int
 | [a, b] => (a, b)
 | _ => (0, 0)
noncomputable def zmc (ps : List (Int × Int)) : List (Int × Int) := (ssK (ps.map kP)).map pK
theorem zzy : ∀ ps : List (Int × Int), zut (ps.map pD) = some (ps.map kP)
 | [] => rfl
 | p :: ps => by
  rw [zba, zba]
  unfold zut
  rw [zzy ps]
  rfl
theorem zzr {ps : List (Int × Int)} {k : List Int} (h : k ∈ ssK (ps.map kP)) : ∃ p ∈ ps, k = kP p := by
 refine x1_2 (zbd.mp (ssK_mem.mp h)) fun p hp e => ?_
 exact ⟨p, hp, e.symm⟩
theorem dK_pts (ps : List (Int × Int)) : (ssK (ps.map kP)).map dK = (zmc ps).map pD := by
 unfold zmc
 rw [zcn]
 refine zev fun k hk => ?_
 refine x1_2 (zzr hk) fun p _ e => ?_
 subst e
 rfl
theorem fm_ss {ps : List (Int × Int)} (h : ps.length <= 63) : fmW .ss [.lst (ps.map pD)] = some (.new ((zmc ps).map pD)) := by
 show (zut (ps.map pD)).bind _ = _
 rw [zzy, zbj, if_pos (by rw [zad]; exact h), dK_pts]
theorem fm_rev {l : List D} : fmW .rev [.lst l] = some (.new l.reverse) := rfl
theorem sortP_mem {ps : List (Int × Int)} {x : Int × Int} : x ∈ zmc ps ↔ x ∈ ps := by
 unfold zmc
 rw [zbd]
 constructor
 ·rintro ⟨k, hk, e⟩
  refine x1_2 (zzr hk) fun p hp e2 => ?_
  subst e2
  rw [<- e]; exact hp
 ·intro h
  exact ⟨kP x, ssK_mem.mpr (zbg h), rfl⟩
theorem ydd (ps : List (Int × Int)) : (zmc ps).Pairwise Hu.lt := by
 unfold zmc
 have h := zxx (l := ps.map kP) (fun x hx => by
  refine x1_2 (zbd.mp hx) fun p _ e => ?_
  rw [<- e]; rfl)
 refine zcv.mpr (h.imp_of_mem fun {a b} ha hb hab => ?_)
 refine x1_2 (zzr ha) fun p _ e => ?_
 refine x1_2 (zzr hb) fun q _ e2 => ?_
 subst e; subst e2
 simp only [kP, ltK, zfz, zaj, decide_eq_true_eq] at hab
 exact hab
theorem ydb : ∀ l : List (List Int), (ssK l).length <= l.length
 | [] => zai _
 | k :: l => by
  have h := ydb l
  have g : ∀ m : List (List Int), (insK k m).length <= m.length + 1 := fun m => by
   induction m with
   | nil => exact zai _
   | cons x m ih =>
    unfold insK
    split
    ·simp
    ·split
     ·simp
     ·rw [zah, zah]; omega
  have := g (ssK l)
  unfold ssK
  rw [zah]; omega
theorem zvz (ps : List (Int × Int)) : (zmc ps).length <= ps.length := by
 unfold zmc
 rw [zad]
 have := ydb (ps.map kP)
 rw [zad] at this
 exact this
theorem ymb (l : List D) : cutD l none (some (-1)) = l.dropLast := by
 unfold cutD HT.sIx
 rw [zdq]
 simp only [zhz, Nat.sub_zero]
 congr 1
 split <;> omega
noncomputable abbrev znm : Int := 10000000000000000000000000000000000000000
section
variable {Γ : Nat -> List D -> Option W}
noncomputable def zpt : List D -> Option W := run (tab []) zlj 4
theorem ok_law_turn_k13 : ∀ ds w, ds.length = 3 -> zpt ds = some w -> run Γ zlj 4 ds = some w := fun ds w _ h => zna [] (fun p hp => by cases hp) (by decide) ds w h
theorem yhd {a b c : Int × Int} (ha : Bd znm a) (hb : Bd znm b) (hc : Bd znm c) : zpt [pD a, pD b, pD c] = some (.val (.int (Hu.o3 a b c))) := by
 obtain ⟨a1, a2, a3, a4⟩ := ha
 obtain ⟨b1, b2, b3, b4⟩ := hb
 obtain ⟨c1, c2, c3, c4⟩ := hc
 obtain ⟨ax, ay⟩ := a
 obtain ⟨bx, by'⟩ := b
 obtain ⟨cx, cy⟩ := c
 simp only [znm] at a1 a2 a3 a4 b1 b2 b3 b4 c1 c2 c3 c4
 have m1 : zkz (bx - ax) (cy - ay) = true := zkr (by omega) (by omega) (by omega) (by omega)
 have m2 : zkz (by' - ay) (cx - ax) = true := zkr (by omega) (by omega) (by omega) (by omega)
 clear a1 a2 a3 a4 b1 b2 b3 b4 c1 c2 c3 c4
 unfold zpt zlj pD Hu.o3 Hu.cr Hu.sb
 walk_at "evh"
noncomputable def zye : List D -> Option W := run (tab [(45, zpt)]) zlk 5
theorem ok_law_ring_k13 (h45 : Γ 45 = zpt) : ∀ ds w, ds.length = 1 -> zye ds = some w -> run Γ zlk 5 ds = some w := fun ds w _ h => zna [(45, zpt)] (by intro p hp; rcases zaw.mp hp with rfl; exact h45) (by decide) ds w h
noncomputable abbrev zmv : E := (.and (.cmp .gt (.bi .len (.cons (.var 3) .nil)) (.int 1)) (.cmp .le (.call 45 (.cons (.ix (.var 3) (.neg (.int 2))) (.cons (.ix (.var 3) (.neg (.int 1))) (.cons (.var 4) .nil)))) (.int 0)))
noncomputable abbrev zrd : Ss := (.cons (.whl zmv (.cons (.pop 3) .nil)) (.cons (.app 3 (.var 4)) .nil))
theorem at_m1 {α : Type} {l : List α} {x : α} : L2.atI (l ++ [x]) (-1) = some x := by
 rw [zsu (by decide) (by rw [zap, zah, zbq]; omega), zap, zah, zbq, show ((-1 : Int) + ((l.length + (0 + 1) : Nat) : Int)).toNat = l.length by omega, zao (zai _), zeq]
 rfl
theorem at_m2 {α : Type} {l : List α} {x y : α} : L2.atI (l ++ [x] ++ [y]) (-2) = some x := by
 have e : (l ++ [x] ++ [y]).length = l.length + 2 := by simp
 rw [zsu (by decide) (by omega), e, show ((-2 : Int) + ((l.length + 2 : Nat) : Int)).toNat = l.length by omega, zck, zao (zai _), zeq]
 rfl
theorem zsl (h45 : Γ 45 = zpt) {p : Int × Int} (hp : Bd znm p) (s f r : Option B) : ∀ st : List (Int × Int), (∀ q ∈ st, Bd znm q) -> evB Γ zmv [s, f, r, some (.ow (st.reverse.map pD)), some (.sh (pD p))] = some (match st with
  | b :: a :: _ => decide (Hu.o3 a b p <= 0)
  | _ => false)
 | [], _ => by
  unfold zmv
  simp only [zhd, zdb]
  walk_at "evh"
 | [a], _ => by
  unfold zmv
  simp only [zbz, zhd, zcm, zba, zdb]
  walk_at "evh"
 | b :: a :: st, hb => by
  have t := yhd (hb a (.tail _ (.head _))) (hb b (.head _)) hp
  have m1 : L2.atI (st.reverse.map pD ++ [pD a] ++ [pD b]) (-1) = some (pD b) := at_m1
  have m2 : L2.atI (st.reverse.map pD ++ [pD a] ++ [pD b]) (-2) = some (pD a) := at_m2
  have hl : decide ((1 : Int) < ((st.reverse.map pD ++ [pD a] ++ [pD b]).length : Int)) = true := decide_eq_true (by simp; omega)
  simp only [zbz, zbw, zba, zdb]
  generalize st.reverse.map pD ++ [pD a] ++ [pD b] = L at m1 m2 hl ⊢
  unfold zmv
  clear hb hp
  walk_at "evh"
theorem ztg (h45 : Γ 45 = zpt) {p : Int × Int} (hp : Bd znm p) (s f r : Option B) : ∀ st : List (Int × Int), (∀ q ∈ st, Bd znm q) -> zky (evB Γ zmv) (exs Γ (.cons (.pop 3) .nil)) (st.length + 1) [s, f, r, some (.ow (st.reverse.map pD)), some (.sh (pD p))] = some (.nx [s, f, r, some (.ow ((Hu.popw p st).reverse.map pD)), some (.sh (pD p))])
 | [], hb => by
  unfold zky
  rw [zsl h45 hp s f r [] hb]
  rfl
 | [a], hb => by
  unfold zky
  rw [zsl h45 hp s f r [a] hb]
  rfl
 | b :: a :: st, hb => by
  unfold zky
  have c := zsl h45 hp s f r (b :: a :: st) hb
  dsimp only at c
  unfold Hu.popw
  by_cases q : Hu.o3 a b p <= 0
  ·rw [decide_eq_true q] at c
   rw [c, if_pos q]
   have ih := ztg h45 hp s f r (a :: st) fun x hx => hb x (.tail _ hx)
   have e : exs Γ (.cons (.pop 3) .nil) [s, f, r, some (.ow ((b :: a :: st).reverse.map pD)), some (.sh (pD p))] = some (.nx [s, f, r, some (.ow ((a :: st).reverse.map pD)), some (.sh (pD p))]) := by
    have ne : ((b :: a :: st).reverse.map pD = []) = False := eq_false (by simp)
    have dl : ((b :: a :: st).reverse.map pD).dropLast = (a :: st).reverse.map pD := by
     rw [zbz (a := b), zbw, zba, zdb, zjb]
    generalize (b :: a :: st).reverse.map pD = L at ne dl ⊢
    clear ih hb
    walk_at "evh"
   simp only [e]
   exact ih
  ·rw [decide_eq_false q] at c
   rw [c, if_neg q]
theorem ycz (h45 : Γ 45 = zpt) {p : Int × Int} (hp : Bd znm p) (s f r : Option B) (st : List (Int × Int)) (hb : ∀ q ∈ st, Bd znm q) (hl : (Hu.popw p st).length < 1000) : exs Γ zrd [s, f, r, some (.ow (st.reverse.map pD)), some (.sh (pD p))] = some (.nx [s, f, r, some (.ow ((p :: Hu.popw p st).reverse.map pD)), some (.sh (pD p))]) := by
 have w := zoq (ztg h45 hp s f r st hb)
 have hz : (((Hu.popw p st).reverse.map pD).length < PySem.sizeLine) = True := eq_true (by rw [zbh, zad, zbu]; omega)
 have e : (p :: Hu.popw p st).reverse.map pD = (Hu.popw p st).reverse.map pD ++ [pD p] := by rw [zbz, zbw]; rfl
 rw [e]
 have lfp := yix p
 unfold zrd
 generalize (Hu.popw p st).reverse.map pD = L at hz w ⊢
 generalize st.reverse.map pD = L0 at w ⊢
 unfold zmv at w ⊢
 clear hl e hb hp
 walk_at "evh"
theorem zul (p : Int × Int) : ∀ st : List (Int × Int), (Hu.popw p st).length <= st.length
 | [] => zai _
 | [_] => zai _
 | b :: a :: st => by
  unfold Hu.popw
  split
  ·have := zul p (a :: st)
   rw [zah (a := b)]; omega
  ·exact zai _
theorem zzj {p x : Int × Int} : ∀ {st : List (Int × Int)}, x ∈ Hu.popw p st -> x ∈ st
 | [], h => h
 | [_], h => h
 | b :: a :: st, h => by
  unfold Hu.popw at h
  split at h
  ·exact .tail _ (zzj h)
  ·exact h
theorem zsh (h45 : Γ 45 = zpt) (s f r : Option B) : ∀ (l st : List (Int × Int)) (o : Option B), (∀ q ∈ l, Bd znm q) -> (∀ q ∈ st, Bd znm q) -> l.length + st.length < 900 ->
  ∃ o', forN (zle (.name 4)) (exs Γ zrd) (l.map pD) [s, f, r, some (.ow (st.reverse.map pD)), o] = some (.nx [s, f, r, some (.ow ((Hu.bent st l).reverse.map pD)), o'])
 | [], st, o, _, _, _ => ⟨o, rfl⟩
 | p :: l, st, o, hb, hs, hl => by
  rw [zah] at hl
  have hp := hb p (.head _)
  have pl := zul p st
  obtain ⟨o', q⟩ := zsh h45 s f r l (p :: Hu.popw p st) (some (.sh (pD p))) (fun x hx => hb x (.tail _ hx)) (fun x hx => by
   rcases zan.mp hx with e | hx
   ·rw [e]; exact hp
   ·exact hs x (zzj hx)) (by rw [zah]; omega)
  refine ⟨o', ?_⟩
  rw [zba]
  unfold forN
  simp only [zpe, zwe, zwf, zbv]
  rw [ycz h45 hp s f r st hs (by omega)]
  exact q
theorem zpg : ∀ (l st : List (Int × Int)), (Hu.bent st l).length <= st.length + l.length
 | [], st => zai _
 | p :: l, st => by
  have h := zpg l (p :: Hu.popw p st)
  have := zul p st
  unfold Hu.bent
  rw [zah] at h ⊢
  omega
theorem frz5 {a b c d e : Option B} : frz [a, b, c, d, e] = [a.map fun x => .sh x.d, b.map fun x => .sh x.d, c.map fun x => .sh x.d, d.map fun x => .sh x.d, e.map fun x => .sh x.d] := rfl
theorem zox (l : List (Int × Int)) : (l.map pD).dropLast = l.dropLast.map pD := by
 rw [zdq, zdq, zad, List.map_take]
theorem yia {ps : List (Int × Int)} (hl : ps.length <= 63) (hb : ∀ q ∈ ps, Bd znm q) : zye [.lst (ps.map pD)] = some (.new ((Hu.ring (zmc ps)).map pD)) := by
 unfold zye
 generalize hΓ : tab [(45, zpt)] = Γ
 have h45 : Γ 45 = zpt := by rw [<- hΓ]; rfl
 clear hΓ
 have f1 := fm_ss hl
 have f2 := fm_rev (l := (zmc ps).map pD)
 have sl := zvz ps
 have sb : ∀ q ∈ zmc ps, Bd znm q := fun q hq => hb q (sortP_mem.mp hq)
 rw [<- List.map_reverse] at f2
 generalize zmc ps = so at f1 f2 sl sb ⊢
 have g1 := zsh (Γ := Γ) h45 (some (.sh (.lst (ps.map pD)))) (some (.sh (.lst []))) (some (.sh (.lst (so.map pD)))) so [] none sb (fun q hq => by cases hq) (by rw [zbq]; omega)
 refine x1_1 g1 fun o1 g1 => ?_
 have l1 := zpg so []
 have l2 := zpg so.reverse []
 rw [zbq, zff] at l1 l2
 rw [zbu] at l2
 have e1 := ymb ((Hu.bent [] so).reverse.map pD)
 rw [zox] at e1
 have e2 := ymb ((Hu.bent [] so.reverse).reverse.map pD)
 rw [zox] at e2
 obtain ⟨o2, g2⟩ := zsh (Γ := Γ) h45 (some (.sh (.lst (ps.map pD)))) (some (.ow ((Hu.bent [] so).reverse.dropLast.map pD))) (some (.sh (.lst (so.reverse.map pD)))) so.reverse [] o1 (fun q hq => sb q (zfs.mp hq)) (fun q hq => by cases hq) (by rw [zbq, zbu]; omega)
 unfold Hu.ring
 rw [zbw]
 have z1 : ([] ++ (Hu.bent [] so).reverse.dropLast.map pD).length <= PySem.sizeLine := by
  rw [zbh, zcm, zad, zcs, zbu]; omega
 have z2 : ((Hu.bent [] so).reverse.dropLast.map pD).length + ((Hu.bent [] so.reverse).reverse.dropLast.map pD).length <= PySem.sizeLine := by
  rw [zbh, zad, zcs, zbu, zad, zcs, zbu]; omega
 have c1 : opW .add (.lst []) (.lst ((Hu.bent [] so).reverse.dropLast.map pD)) = some (.new ((Hu.bent [] so).reverse.dropLast.map pD)) := by
  show (if _ then some (W.new _) else none) = _
  rw [if_pos (by rw [zbq]; rw [zcm] at z1; omega), zcm]
 have c2 : opW .add (.lst ((Hu.bent [] so).reverse.dropLast.map pD)) (.lst ((Hu.bent [] so.reverse).reverse.dropLast.map pD)) = some (.new ((Hu.bent [] so).reverse.dropLast.map pD ++ (Hu.bent [] so.reverse).reverse.dropLast.map pD)) := by
  show (if _ then some (W.new _) else none) = _
  rw [if_pos z2]
 have lfq : ∀ l : List (Int × Int), lfL (l.map pD) = true := fun l => by
  induction l with
  | nil => rfl
  | cons p l ih => rw [zba]; unfold lfL; rw [yix, ih]; rfl
 have q1 := lfq ((Hu.bent [] so).reverse.dropLast)
 have q2 : lfL ((Hu.bent [] so).reverse.dropLast.map pD ++ (Hu.bent [] so.reverse).reverse.dropLast.map pD) = true := by
  rw [<- zbw]; exact lfq _
 have q3 := lfq ((Hu.bent [] so.reverse).reverse.dropLast)
 simp only [zhd, zdb] at g1 g2
 unfold zlk
 have fz := @frz5
 generalize (Hu.bent [] so).reverse.dropLast.map pD = R1 at *
 generalize (Hu.bent [] so.reverse).reverse.dropLast.map pD = R2 at *
 generalize (Hu.bent [] so).reverse.map pD = T1 at *
 generalize (Hu.bent [] so.reverse).reverse.map pD = T2 at *
 unfold zrd zmv at g1 g2
 have ex1 : ∀ (o : Option B) (b3 : Option B), exs Γ (.cons (.asg 3 (.lst .nil)) (.cons (.frr (.name 4) (.seqV 2) (.cons (.whl (.and (.cmp .gt (.bi .len (.cons (.var 3) .nil)) (.int 1)) (.cmp .le (.call 45 (.cons (.ix (.var 3) (.neg (.int 2))) (.cons (.ix (.var 3) (.neg (.int 1))) (.cons (.var 4) .nil)))) (.int 0))) (.cons (.pop 3) .nil)) (.cons (.app 3 (.var 4)) .nil))) (.cons (.asg 1 (.bin .add (.var 1) (.sl (.var 3) .non (.som (.neg (.int 1)))))) .nil))) [some (.sh (.lst (ps.map pD))), some (.sh (.lst [])), some (.sh (.lst (so.map pD))), b3, none] = some (.nx [some (.sh (.lst (ps.map pD))), some (.ow R1), some (.sh (.lst (so.map pD))), some (.ow T1), o1]) := by
  intro o b3
  clear g2 f1 f2 sl sb l1 l2 e2 z1 z2 c2 lfq q2 q3 fz hb hl
  walk_at "evh"
 have ex2 : exs Γ (.cons (.asg 3 (.lst .nil)) (.cons (.frr (.name 4) (.seqV 2) (.cons (.whl (.and (.cmp .gt (.bi .len (.cons (.var 3) .nil)) (.int 1)) (.cmp .le (.call 45 (.cons (.ix (.var 3) (.neg (.int 2))) (.cons (.ix (.var 3) (.neg (.int 1))) (.cons (.var 4) .nil)))) (.int 0))) (.cons (.pop 3) .nil)) (.cons (.app 3 (.var 4)) .nil))) (.cons (.asg 1 (.bin .add (.var 1) (.sl (.var 3) .non (.som (.neg (.int 1)))))) .nil))) [some (.sh (.lst (ps.map pD))), some (.ow R1), some (.sh (.lst (so.reverse.map pD))), some (.ow T1), o1] = some (.nx [some (.sh (.lst (ps.map pD))), some (.ow (R1 ++ R2)), some (.sh (.lst (so.reverse.map pD))), some (.ow T2), o2]) := by
  clear g1 f1 f2 sl sb l1 l2 e1 z1 z2 c1 lfq q1 q3 fz hb hl ex1
  walk_at "evh"
 have ex1' := ex1 none none
 clear g1 g2 sl sb l1 l2 e1 e2 z1 z2 c1 c2 lfq q1 q2 q3 hb hl ex1
 walk_at "evh"
 unfold forN
 walk_at "evh"
 unfold forN
 walk_at "evh"
 unfold forN
 walk_at "evh"
end
open Sf
noncomputable def stD (q : Rat × Rat) : D := .tup [fr q.1, fr q.2]
theorem lf_stD (q : Rat × Rat) : lf (stD q) = true := rfl
noncomputable def spot (b f s : Int) (p : Int × Int) : Rat × Rat := (Rat.divInt (p.1 * b + f) s, Rat.divInt (p.2 * b - 2 * f) s)
structure ShapeBy (m : Nat) (l : List (Rat × Rat)) (ps : List (Int × Int)) (b f s : Int) : Prop where
 pts : Pts ps
 len : ps.length <= m
 b0 : 1 <= b
 b1 : b <= 1000000000
 f0 : -1000000000000000000 <= f
 f1 : f <= 1000000000000000000
 s0 : 1 <= s
 s1 : s <= 1000000000
 eq : l = (Hu.ring (zmc ps)).map (spot b f s)
theorem ygp {a b c : D} {i : Int} (h0 : 0 <= i) (h1 : i < 3) : ∃ v, L2.atI [a, b, c] i = some v /\ (v = a ∨ v = b ∨ v = c) := by
 have : i = 0 ∨ i = 1 ∨ i = 2 := by omega
 rcases this with e | e | e <;> subst e
 ·exact ⟨a, rfl, .inl rfl⟩
 ·exact ⟨b, rfl, .inr (.inl rfl)⟩
 ·exact ⟨c, rfl, .inr (.inr rfl)⟩
theorem zyt {a b : D} {i : Int} (h0 : 0 <= i) (h1 : i < 2) : ∃ v, L2.atI [a, b] i = some v /\ (v = a ∨ v = b) := by
 have : i = 0 ∨ i = 1 := by omega
 rcases this with e | e <;> subst e
 ·exact ⟨a, rfl, .inl rfl⟩
 ·exact ⟨b, rfl, .inr rfl⟩
theorem ylt : ∀ l : List (Int × Int), lfL (l.map pD) = true
 | [] => rfl
 | p :: l => by rw [zba]; unfold lfL; rw [yix, ylt l]; rfl
theorem zon : ∀ l : List (Rat × Rat), lfL (l.map stD) = true
 | [] => rfl
 | p :: l => by rw [zba]; unfold lfL; rw [lf_stD, zon l]; rfl
section
variable {Γ : Nat -> List D -> Option W}
theorem znj {t b : Int} (h : b ≠ 0) (hb : b.natAbs < 2 ^ 9000) : zlc [.int t, .int b] = some (.val (fr (Rat.divInt t b))) := by
 unfold zlc
 simp only
 rw [if_pos ⟨h, hb⟩]
noncomputable abbrev zqt : List (Nat × (List D -> Option W)) := [(46, zye), (34, znr), (29, zlq), (2, zmd), (13, zlc)]
noncomputable def zww : List D -> Option W := run (tab zqt) zkw 8
theorem ok_law_shape_k13 (h46 : Γ 46 = zye) (h34 : Γ 34 = znr) (h29 : Γ 29 = zlq) (h2 : Γ 2 = zmd) (h13 : Γ 13 = zlc) : ∀ ds w, ds.length = 3 -> zww ds = some w -> run Γ zkw 8 ds = some w := fun ds w _ h => zna zqt (by
 intro p hp
 simp only [zqt, zan, zer, or_false] at hp
 rcases hp with rfl | rfl | rfl | rfl | rfl <;> assumption) (by decide) ds w h
theorem zzi (p : Hu.Pt) : ∀ (l : List Hu.Pt), ∀ c ∈ Hu.popw p l, c ∈ l
 | [], c, h => h
 | [_], c, h => h
 | b :: a :: r, c, h => by
  unfold Hu.popw at h
  split at h
  ·exact .tail _ (zzi p (a :: r) c h)
  ·exact h
theorem zve : ∀ (l st : List Hu.Pt), ∀ c ∈ Hu.bent st l, c ∈ st ∨ c ∈ l
 | [], st, c, h => .inl h
 | p :: l, st, c, h => by
  rcases zve l _ c h with q | q
  ·rcases zan.mp q with q | q
   ·exact .inr (q ▸ .head _)
   ·exact .inl (zzi p st c q)
  ·exact .inr (.tail _ q)
theorem zzd {l : List Hu.Pt} : ∀ c ∈ Hu.ring l, c ∈ l := fun c h => by
 unfold Hu.ring at h
 rcases zcc.mp h with q | q
 ·have := zja _ q
  rw [zfs] at this
  rcases zve _ _ _ this with q | q
  ·cases q
  ·exact q
 ·have := zja _ q
  rw [zfs] at this
  rcases zve _ _ _ this with q | q
  ·cases q
  ·exact zfs.mp q
theorem m9 (a : Int) : 1 <= 1 + a % 9 /\ 1 + a % 9 <= 1000000000 := by omega
theorem mE9 (a : Int) : 1 <= 1 + a % 1000000000 /\ 1 + a % 1000000000 <= 1000000000 := by omega
theorem mfar (a : Int) : -1000000000000000000 <= a % 2000000000000000000 - 1000000000000000000 /\ a % 2000000000000000000 - 1000000000000000000 <= 1000000000000000000 := by omega
theorem mk2 {x b : Int} (h0 : -2000 <= x) (h1 : x <= 2000) (h2 : 1 <= b) (h3 : b <= 1000000000) : zkz x b = true := zkr (by omega) (by omega) (by omega) (by omega)
theorem mkf {f : Int} (h0 : -1000000000000000000 <= f) (h1 : f <= 1000000000000000000) : zkz 2 f = true := zkr (by decide) (by decide) (by omega) (by omega)
theorem e9 {s : Int} (h0 : 1 <= s) (h1 : s <= 1000000000) : s ≠ 0 /\ s.natAbs < 2 ^ 9000 := by
 have : (1000000000 : Nat) < 2 ^ 9000 := by decide +kernel
 exact ⟨by omega, by omega⟩
theorem Bd.big {p : Int × Int} (h : Bd 2000 p) : Bd znm p := by
 obtain ⟨a, b, c, d⟩ := h
 exact ⟨by simp only [znm]; omega, by simp only [znm]; omega, by simp only [znm]; omega, by simp only [znm]; omega⟩
theorem ztl (ps : List (Int × Int)) : (Hu.ring (zmc ps)).length <= 2 * ps.length := by
 unfold Hu.ring
 have l1 := zpg (zmc ps) []
 have l2 := zpg (zmc ps).reverse []
 rw [zbu] at l2
 have l3 := zvz ps
 rw [zap, zcs, zcs, zbu, zbu]
 rw [zbq] at l1 l2
 omega
theorem yde (ns : List Int) (s m : Nat) (hs : s <= 400) (hm : 3 <= m) (hm2 : m <= 63) : ∃ l ps b f sh, ShapeBy m l ps b f sh /\ zww [.lst (ns.map D.int), .int (s : Int), .int (m : Int)] = some (.new (l.map stD)) := by
 refine x1_3 (ynr ns s m (by omega) hm (by omega)) fun ps hps pl P => ?_
 have hr := yia (ps := ps) (by omega) (fun q hq => (P.bd q hq).big)
 have hR : ∀ p ∈ Hu.ring (zmc ps), Bd 2000 p := fun p hp => by
  exact P.bd p (sortP_mem.mp (zzd p hp))
 have hRl : (Hu.ring (zmc ps)).length <= 200 := zcb (ztl ps) (by omega)
 generalize hRR : Hu.ring (zmc ps) = R at hr hR hRl
 refine x1_3 (znc ns (s + 1) (by omega)) fun t ht t0 t1 => ?_
 refine x1_1 (zod (ns := ns) (k := s)) fun c0 hc0 => ?_
 refine x1_1 (zod (ns := ns) (k := s + 1)) fun c1 hc1 => ?_
 refine x1_1 (zod (ns := ns) (k := s + 2)) fun c2 hc2 => ?_
 have e1 : (((s + 1 : Nat)) : Int) = (s : Int) + 1 := Int.natCast_add s 1
 have e2 : (((s + 2 : Nat)) : Int) = (s : Int) + 2 := Int.natCast_add s 2
 rw [e1] at ht hc1
 rw [e2] at hc2
 refine x1_2 (ygp (a := D.int 1) (b := D.int (1 + t / 64 % 9)) (c := D.int (1 + c0 % 1000000000)) (i := t / 16 % 3) (zbf _ (by decide)) (zbi _ (by decide))) fun v1 g1 g1' => ?_
 refine x1_2 (zyt (a := D.int 1) (b := D.int (1 + c1 % 1000000000)) (i := t / 1024 % 2) (zbf _ (by decide)) (zbi _ (by decide))) fun v2 g2 g2' => ?_
 refine x1_2 (zyt (a := D.int 0) (b := D.int (c2 % 2000000000000000000 - 1000000000000000000)) (i := t / 2048 % 2) (zbf _ (by decide)) (zbi _ (by decide))) fun v3 g3 g3' => ?_
 obtain ⟨sh, hsh, s0, s1⟩ : ∃ x : Int, v1 = .int x /\ 1 <= x /\ x <= 1000000000 := by
  rcases g1' with e | e | e
  ·exact ⟨_, e, by decide, by decide⟩
  ·exact ⟨_, e, m9 _⟩
  ·exact ⟨_, e, mE9 _⟩
 obtain ⟨by', hby, b0, b1⟩ : ∃ x : Int, v2 = .int x /\ 1 <= x /\ x <= 1000000000 := by
  rcases g2' with e | e
  ·exact ⟨_, e, by decide, by decide⟩
  ·exact ⟨_, e, mE9 _⟩
 obtain ⟨far, hfar, f0, f1⟩ : ∃ x : Int, v3 = .int x /\ -1000000000000000000 <= x /\ x <= 1000000000000000000 := by
  rcases g3' with e | e
  ·exact ⟨_, e, by decide, by decide⟩
  ·exact ⟨_, e, mfar _⟩
 subst hsh; subst hby; subst hfar
 refine ⟨R.map (spot by' far sh), ps, by', far, sh, ⟨P, pl, b0, b1, f0, f1, s0, s1, by rw [hRR]⟩, ?_⟩
 unfold zww
 generalize hΓ : tab zqt = Γ
 have h46 : Γ 46 = zye := by rw [<- hΓ]; rfl
 have h34 : Γ 34 = znr := by rw [<- hΓ]; rfl
 have h29 : Γ 29 = zlq := by rw [<- hΓ]; rfl
 have h2 : Γ 2 = zmd := by rw [<- hΓ]; rfl
 have h13 : Γ 13 = zlc := by rw [<- hΓ]; rfl
 have m1 : zkz 2 1000000000000000000 = true := zkr (by decide) (by decide) (by decide) (by decide)
 have lfR := ylt R
 have hcomp : ev Γ (.comp (.tup (.cons (.call 13 (.cons (.bin .add (.bin .mul (.var 1) (.var 3)) (.var 4)) (.cons (.var 5) .nil))) (.cons (.call 13 (.cons (.bin .sub (.bin .mul (.var 2) (.var 3)) (.bin .mul (.int 2) (.var 4))) (.cons (.var 5) .nil))) .nil))) (.tup [1, 2]) (.seqV 3) 3 [6, 7, 5] .non)
   [some (.lst (ns.map D.int)), some (.int (s : Int)), some (.int (m : Int)), some (.lst (R.map pD)), some (.int t), some (.int sh), some (.int by'), some (.int far)] = some (.new (R.map fun p => stD (spot by' far sh p))) := by
  refine znu (g := pD) ?_ (by rw [zbh]; omega) rfl fun p hp => ?_
  ·clear hR hRR hΓ g1 g2 g3 hr hps ht hc0 hc1 hc2
   walk_at "evh"
  ·obtain ⟨x0, x1, y0, y1⟩ := hR p hp
   obtain ⟨x, y⟩ := p
   simp only at x0 x1 y0 y1
   have k1 : zkz x by' = true := mk2 x0 x1 b0 b1
   have k2 : zkz y by' = true := mk2 y0 y1 b0 b1
   have k3 : zkz 2 far = true := mkf f0 f1
   have w1 := znj (t := x * by' + far) (b := sh) (e9 s0 s1).1 (e9 s0 s1).2
   have w2 := znj (t := y * by' - 2 * far) (b := sh) (e9 s0 s1).1 (e9 s0 s1).2
   have q1 : stD (spot by' far sh (x, y)) = .tup [fr (Rat.divInt (x * by' + far) sh), fr (Rat.divInt (y * by' - 2 * far) sh)] := rfl
   have q2 : pD (x, y) = .tup [.int x, .int y] := rfl
   rw [q1, q2]
   clear hR hRR hΓ g1 g2 g3 hr hps ht hc0 hc1 hc2 x0 x1 y0 y1 hp q1 q2 g1' g2' g3' P
   walk_at "evh"
 rw [zcn]
 show run Γ zkw 8 _ = some (.new (R.map fun p => stD (spot by' far sh p)))
 generalize hO : (R.map fun p => stD (spot by' far sh p)) = Out1 at *
 clear hR hRR hΓ g1' g2' g3' P hRl hO t0 t1 s0 s1 b0 b1 f0 f1 e1 e2 pl hs hm hm2
 generalize R.map pD = RD at *
 unfold zkw
 rw [ydk]
 generalize hce : E.comp _ _ _ _ _ _ = ce at *
 walk_at "evh"
end
open Sf
mutual
theorem yju : ∀ (n : Nat) (d : D), dOk n d = true -> eqD d d = true
 | _, .non, _ => rfl
 | _, .bl b, _ => by simp only [eqD, beq_self_eq_true]
 | _, .int i, _ => by simp [eqD]
 | 0, .tup l, h => by simp only [dOk] at h; cases h
 | n + 1, .tup l, h => by
  simp only [dOk] at h
  simp only [eqD]
  exact eqL_self n l h
 | 0, .lst l, h => by simp only [dOk] at h; cases h
 | n + 1, .lst l, h => by
  simp only [dOk] at h
  simp only [eqD]
  exact eqL_self n l h
 | _, .exc x, h => by simp only [dOk] at h; cases h
theorem eqL_self : ∀ (n : Nat) (l : List D), dOkL n l = true -> eqL l l = true
 | _, [], _ => by simp only [eqL]
 | n, d :: l, h => by
  simp only [dOkL, zaj] at h
  simp only [eqL, zaj]
  exact ⟨yju n d h.1, eqL_self n l h.2⟩
end
theorem yft : ∀ l : List (Rat × Rat), dOkL 49 (l.map stD) = true
 | [] => rfl
 | q :: l => by
  rw [zba]
  unfold dOkL
  rw [yft l]
  rfl
noncomputable def SzL (n : Nat) (l : List (Rat × Rat)) : Prop := ∀ q ∈ l, Sz n q.1 /\ Sz n q.2
theorem ShapeBy.sz {m : Nat} {l : List (Rat × Rat)} {ps : List (Int × Int)} {b f s : Int} (h : ShapeBy m l ps b f s) : SzL 64 l := fun q hq => by
 rw [h.eq] at hq
 refine x1_2 (zbd.mp hq) fun p hp e => ?_
 subst e
 have hR : Bd 2000 p := by
  exact h.pts.bd p (sortP_mem.mp (zzd p hp))
 refine x0_6 (And.intro h.b0 (And.intro h.b1 (And.intro h.f0 (And.intro h.f1 (And.intro h.s0 h.s1))))) fun b0 b1 f0 f1 s0 s1 => ?_
 have key : ∀ x : Int, -2000 <= x -> x <= 2000 -> -2000000000000 <= x * b /\ x * b <= 2000000000000 := fun x h1 h2 => by
  have a1 := zhf h2 (show 0 <= b by omega)
  have a2 := zhf h1 (show 0 <= b by omega)
  have a3 : (2000 : Int) * b <= 2000000000000 := by omega
  have a4 : -2000000000000 <= (-2000 : Int) * b := by omega
  omega
 have k1 := key p.1 hR.a hR.b
 have k2 := key p.2 hR.c hR.d
 have e64 : (2 : Nat) ^ 64 = 18446744073709551616 := by decide
 exact ⟨zvu (by omega) (by rw [e64]; omega) (by rw [e64]; omega), zvu (by omega) (by rw [e64]; omega) (by rw [e64]; omega)⟩
theorem ShapeBy.small {m : Nat} {l : List (Rat × Rat)} {ps : List (Int × Int)} {b f s : Int} (h : ShapeBy m l ps b f s) (hm : m <= 63) : l.length <= 200 := by
 have l4 := h.len
 rw [h.eq, zad]
 exact zcb (ztl ps) (by omega)
section
variable {Γ : Nat -> List D -> Option W}
noncomputable def zwv : List D -> Option W := run (tab [(11, zoy)]) zpy 2
theorem ok_sized (h11 : Γ 11 = zoy) : ∀ ds w, ds.length = 2 -> zwv ds = some w -> run Γ zpy 2 ds = some w := fun ds w _ h => zna [(11, zoy)] (by intro p hp; rcases zaw.mp hp with rfl; exact h11) (by decide) ds w h
theorem zwd {l : List (Rat × Rat)} {x : Rat} (hl : l.length <= 1000) (hz : SzL 2000 l) (hx : Sz 2000 x) (h0 : 0 < x.num) : zwv [.lst (l.map stD), fr x] = some (.new ((l.map fun q => (q.1 * x, q.2 * x)).map stD)) := by
 unfold zwv
 generalize hΓ : tab [(11, zoy)] = Γ
 have h11 : Γ 11 = zoy := by rw [<- hΓ]; rfl
 have hn : decide (x.num <= 0) = false := decide_eq_false (by omega)
 have hcomp : ev Γ (.comp (.tup (.cons (.call 11 (.cons (.var 1) (.cons (.var 3) .nil))) (.cons (.call 11 (.cons (.var 2) (.cons (.var 3) .nil))) .nil))) (.tup [1, 2]) (.seqV 0) 3 [1] .non) [some (.lst (l.map stD)), some (fr x)] = some (.new (l.map fun q => stD (q.1 * x, q.2 * x))) := by
  refine znu (g := stD) ?_ (by rw [zbh]; omega) rfl fun q hq => ?_
  ·clear hz hx h0 hn hΓ
   walk_at "evh"
  ·have t1 : zoy [fr q.1, fr x] = some (.val (fr (q.1 * x))) := zto (zpr (hz q hq).1 hx (by decide) (by decide))
   have t2 : zoy [fr q.2, fr x] = some (.val (fr (q.2 * x))) := zto (zpr (hz q hq).2 hx (by decide) (by decide))
   have q1 : stD (q.1 * x, q.2 * x) = .tup [fr (q.1 * x), fr (q.2 * x)] := rfl
   have q2 : stD q = .tup [fr q.1, fr q.2] := rfl
   rw [q1, q2]
   clear hz hx h0 hn hΓ hq q1 q2 hl
   walk_at "evh"
 rw [zcn]
 show run Γ zpy 2 _ = some (.new (l.map fun q => stD (q.1 * x, q.2 * x)))
 generalize (l.map fun q => stD (q.1 * x, q.2 * x)) = O at *
 unfold zpy
 generalize hce : E.comp _ _ _ _ _ _ = ce at *
 clear hz hx h0 hΓ hl hce
 walk_at "evh"
end
open Sf
section
variable {Γ : Nat -> List D -> Option W}
end
open Sf
theorem zpc {bt : D -> RhoS -> Option RhoS} {fb : RhoS -> Option Out} {I : RhoS -> Prop} : ∀ (l : List D), (∀ d ∈ l, ∀ ρ, I ρ -> ∃ ρ1 ρ2, bt d ρ = some ρ1 /\ fb ρ1 = some (.nx ρ2) /\ I ρ2) -> ∀ ρ, I ρ -> ∃ ρ', forN bt fb l ρ = some (.nx ρ') /\ I ρ'
 | [], _, ρ, h => ⟨ρ, rfl, h⟩
 | d :: l, hs, ρ, h => by
  refine x2_3 (hs d (.head _) ρ h) fun ρ1 ρ2 e1 e2 h2 => ?_
  refine x1_2 (zpc l (fun x hx => hs x (.tail _ hx)) ρ2 h2) fun ρ' e3 h3 => ?_
  refine ⟨ρ', ?_, h3⟩
  unfold forN
  rw [e1]
  simp only
  rw [e2]
  exact e3
noncomputable abbrev H3 := Int × Int × Int
noncomputable def hom (q : Rat × Rat) : H3 := (q.1.num * (q.2.den : Int), q.2.num * (q.1.den : Int), (q.1.den : Int) * (q.2.den : Int))
noncomputable def hD (h : H3) : D := .tup [.int h.1, .int h.2.1, .int h.2.2]
noncomputable def det3 (a b c : H3) : Int := a.1 * (b.2.1 * c.2.2 - c.2.1 * b.2.2) - a.2.1 * (b.1 * c.2.2 - c.1 * b.2.2) + a.2.2 * (b.1 * c.2.1 - c.1 * b.2.1)
noncomputable def bef (a b : H3) : Bool := if a.1 * b.2.2 = b.1 * a.2.2 then decide (a.2.1 * b.2.2 < b.2.1 * a.2.2) else decide (a.1 * b.2.2 < b.1 * a.2.2)
structure HB (n : Nat) (h : H3) : Prop where
 a : h.1.natAbs < 2 ^ n
 b : h.2.1.natAbs < 2 ^ n
 c : h.2.2.natAbs < 2 ^ n
theorem yev {n : Nat} {q : Rat × Rat} (h1 : Sz n q.1) (h2 : Sz n q.2) : HB (n + n) (hom q) :=
 ⟨zmm h1.t (zkl h2), zmm h2.t (zkl h1), zmm (zkl h1) (zkl h2)⟩
noncomputable def oR (a b c : Rat × Rat) : Rat := (b.1 - a.1) * (c.2 - a.2) - (b.2 - a.2) * (c.1 - a.1)
noncomputable def ltR (a b : Rat × Rat) : Prop := a.1 < b.1 ∨ (a.1 = b.1 /\ a.2 < b.2)
theorem zyl (q : Rat × Rat) : (0 : Int) < (hom q).2.2 := zfu (zli q.1) (zli q.2)
theorem cast_pos {i : Int} : (0 : Rat) < (i : Rat) ↔ 0 < i := by
 rw [show (0 : Rat) = ((0 : Int) : Rat) from rfl, zei]
theorem zzp (x : Rat) : (x.num : Rat) = x * ((x.den : Int) : Rat) := by
 have hp := cast_pos.mpr (zli x)
 have h : ((x.den : Int) : Rat) ≠ 0 := fun z => by rw [z] at hp; exact absurd hp (by decide)
 have e : x = (x.num : Rat) / ((x.den : Int) : Rat) := by
  conv => lhs; rw [<- Rat.mkRat_self x, Rat.mkRat_eq_div]
  rw [Rat.intCast_natCast]
 have e2 : x * ((x.den : Int) : Rat) = (x.num : Rat) / ((x.den : Int) : Rat) * ((x.den : Int) : Rat) := by
  conv => lhs; lhs; rw [e]
 rw [e2, zjo h]
theorem yex (q : Rat × Rat) : ((hom q).1 : Rat) = q.1 * ((hom q).2.2 : Rat) := by
 show ((q.1.num * (q.2.den : Int) : Int) : Rat) = q.1 * (((q.1.den : Int) * (q.2.den : Int) : Int) : Rat)
 rw [zcj, zcj, zzp]
 grind
theorem yew (q : Rat × Rat) : ((hom q).2.1 : Rat) = q.2 * ((hom q).2.2 : Rat) := by
 show ((q.2.num * (q.1.den : Int) : Int) : Rat) = q.2 * (((q.1.den : Int) * (q.2.den : Int) : Int) : Rat)
 rw [zcj, zcj, zzp]
 grind
theorem det_eq (a b c : Rat × Rat) : ((det3 (hom a) (hom b) (hom c) : Int) : Rat) = ((hom a).2.2 : Rat) * ((hom b).2.2 : Rat) * ((hom c).2.2 : Rat) * oR a b c := by
 unfold det3 oR
 simp only [Rat.intCast_add, zhp, zcj]
 have x1 := yex a
 have y1 := yew a
 have x2 := yex b
 have y2 := yew b
 have x3 := yex c
 have y3 := yew c
 rw [x1, y1, x2, y2, x3, y3]
 grind
theorem ypt {a b c : Rat × Rat} (h : 0 < oR a b c) : 0 < det3 (hom a) (hom b) (hom c) := by
 rw [<- cast_pos, det_eq]
 have w1 := cast_pos.mpr (zyl a)
 have w2 := cast_pos.mpr (zyl b)
 have w3 := cast_pos.mpr (zyl c)
 exact zdl (zdl (zdl w1 w2) w3) h
theorem yal {x y : Rat} {u v : Int} (hu : 0 < u) (hv : 0 < v) {a b : Int} (ha : (a : Rat) = x * (u : Rat)) (hb : (b : Rat) = y * (v : Rat)) : (a * v = b * u ↔ x = y) /\ (a * v < b * u ↔ x < y) := by
 have hu' := cast_pos.mpr hu
 have hv' := cast_pos.mpr hv
 have e1 : ((a * v : Int) : Rat) = x * ((u : Rat) * (v : Rat)) := by rw [zcj, ha]; grind
 have e2 : ((b * u : Int) : Rat) = y * ((u : Rat) * (v : Rat)) := by rw [zcj, hb]; grind
 have hp := zdl hu' hv'
 constructor
 ·rw [<- Rat.intCast_inj, e1, e2]
  constructor
  ·intro h
   have hne : (u : Rat) * (v : Rat) ≠ 0 := fun z => by rw [z] at hp; exact absurd hp (by decide)
   have : x * ((u : Rat) * (v : Rat)) / ((u : Rat) * (v : Rat)) = y * ((u : Rat) * (v : Rat)) / ((u : Rat) * (v : Rat)) := by rw [h]
   rw [zjn hne, zjn hne] at this
   exact this
  ·intro h; rw [h]
 ·rw [<- zei, e1, e2]
  exact zcu hp
theorem zys (a b : Rat × Rat) : bef (hom a) (hom b) = true ↔ ltR a b := by
 refine x0_2 (yal (zyl a) (zyl b) (yex a) (yex b)) fun e1 l1 => ?_
 refine x0_2 (yal (zyl a) (zyl b) (yew a) (yew b)) fun e2 l2 => ?_
 unfold bef ltR
 by_cases z : (hom a).1 * (hom b).2.2 = (hom b).1 * (hom a).2.2
 ·rw [if_pos z, decide_eq_true_eq, l2]
  have := e1.mp z
  constructor
  ·intro h; exact .inr ⟨this, h⟩
  ·rintro (h | h)
   ·rw [this] at h; exact absurd h Rat.lt_irrefl
   ·exact h.2
 ·rw [if_neg z, decide_eq_true_eq, l1]
  constructor
  ·intro h; exact .inl h
  ·rintro (h | h)
   ·exact h
   ·exact absurd (e1.mpr h.1) z
theorem ymd (a b : H3) : cmpD .ne (hD a) (hD b) = some (decide (a ≠ b)) := by
 obtain ⟨a1, a2, a3⟩ := a
 obtain ⟨b1, b2, b3⟩ := b
 show (if (dOkL 49 [D.int a1, D.int a2, D.int a3] && dOkL 49 [D.int b1, D.int b2, D.int b3]) = true then some (!eqL [D.int a1, D.int a2, D.int a3] [D.int b1, D.int b2, D.int b3]) else none) = _
 rw [if_pos (show (dOkL 49 [D.int a1, D.int a2, D.int a3] && dOkL 49 [D.int b1, D.int b2, D.int b3]) = true from rfl)]
 congr 1
 simp only [eqL, eqD, zgq]
 by_cases e1 : a1 = b1 <;> by_cases e2 : a2 = b2 <;> by_cases e3 : a3 = b3 <;> simp [e1, e2, e3]
section
variable {Γ : Nat -> List D -> Option W}
noncomputable def zqn : List D -> Option W := run (tab []) zlm 3
theorem ok_law_flat_k11 : ∀ ds w, ds.length = 1 -> zqn ds = some w -> run Γ zlm 3 ds = some w := fun ds w _ h => zna [] (fun p hp => by cases hp) (by decide) ds w h
theorem zuz {n : Nat} {q : Rat × Rat} (h1 : Sz n q.1) (h2 : Sz n q.2) (hn : n <= 4000) : zqn [stD q] = some (.val (hD (hom q))) := by
 have m1 : zkz q.1.num (q.2.den : Int) = true := zks h1.t (zkl h2) (by omega) (by omega)
 have m2 : zkz q.2.num (q.1.den : Int) = true := zks h2.t (zkl h1) (by omega) (by omega)
 have m3 : zkz (q.1.den : Int) (q.2.den : Int) = true := zks (zkl h1) (zkl h2) (by omega) (by omega)
 clear h1 h2
 unfold zqn zlm stD hD hom
 walk_at "evh"
noncomputable def mWay : List D -> Option W := run (tab []) zls 4
theorem ok_law_way_k11 : ∀ ds w, ds.length = 3 -> mWay ds = some w -> run Γ zls 4 ds = some w := fun ds w _ h => zna [] (fun p hp => by cases hp) (by decide) ds w h
theorem ybm {a b : Int} {n : Nat} (h : a.natAbs < 2 ^ n) (k : b.natAbs < 2 ^ n) : (a - b).natAbs < 2 ^ (n + 1) := by
 rw [zhc]; omega
theorem ymi {n : Nat} {a b c : H3} (ha : HB n a) (hb : HB n b) (hc : HB n c) (hn : n <= 3000) : mWay [hD a, hD b, hD c] = some (.val (.int (det3 a b c))) := by
 have m : ∀ x y : Int, x.natAbs < 2 ^ n -> y.natAbs < 2 ^ n -> zkz x y = true := fun x y h k => zks h k (by omega) (by omega)
 have m' : ∀ x y z u v : Int, x.natAbs < 2 ^ n -> y.natAbs < 2 ^ n -> z.natAbs < 2 ^ n -> u.natAbs < 2 ^ n -> v.natAbs < 2 ^ n -> zkz x (y * z - u * v) = true := fun x y z u v h1 h2 h3 h4 h5 => zks h1 (ybm (zmm h2 h3) (zmm h4 h5)) (by omega) (by omega)
 obtain ⟨a1, a2, a3⟩ := a
 obtain ⟨b1, b2, b3⟩ := b
 obtain ⟨c1, c2, c3⟩ := c
 obtain ⟨p1, p2, p3⟩ := ha
 obtain ⟨q1, q2, q3⟩ := hb
 obtain ⟨r1, r2, r3⟩ := hc
 simp only at p1 p2 p3 q1 q2 q3 r1 r2 r3
 have k1 := m b2 c3 q2 r3
 have k2 := m c2 b3 r2 q3
 have k3 := m b1 c3 q1 r3
 have k4 := m c1 b3 r1 q3
 have k5 := m b1 c2 q1 r2
 have k6 := m c1 b2 r1 q2
 have k7 := m' a1 b2 c3 c2 b3 p1 q2 r3 r2 q3
 have k8 := m' a2 b1 c3 c1 b3 p2 q1 r3 r1 q3
 have k9 := m' a3 b1 c2 c1 b2 p3 q1 r2 r1 q2
 clear m m' p1 p2 p3 q1 q2 q3 r1 r2 r3
 unfold mWay zls hD det3
 walk_at "evh"
noncomputable def zme : List D -> Option W := run (tab []) zmb 2
theorem ok_law_before : ∀ ds w, ds.length = 2 -> zme ds = some w -> run Γ zmb 2 ds = some w := fun ds w _ h => zna [] (fun p hp => by cases hp) (by decide) ds w h
theorem ztv {n : Nat} {a b : H3} (ha : HB n a) (hb : HB n b) (hn : n <= 3000) : zme [hD a, hD b] = some (.val (.bl (bef a b))) := by
 have m : ∀ x y : Int, x.natAbs < 2 ^ n -> y.natAbs < 2 ^ n -> zkz x y = true := fun x y h k => zks h k (by omega) (by omega)
 obtain ⟨a1, a2, a3⟩ := a
 obtain ⟨b1, b2, b3⟩ := b
 obtain ⟨p1, p2, p3⟩ := ha
 obtain ⟨q1, q2, q3⟩ := hb
 simp only at p1 p2 p3 q1 q2 q3
 have k1 := m a1 b3 p1 q3
 have k2 := m b1 a3 q1 p3
 have k3 := m a2 b3 p2 q3
 have k4 := m b2 a3 q2 p3
 clear m p1 p2 p3 q1 q2 q3
 unfold zme zmb hD bef
 simp only
 by_cases z : a1 * b3 = b1 * a3
 ·rw [if_pos z]
  have zz : decide (a1 * b3 = b1 * a3) = true := decide_eq_true z
  clear z
  walk_at "evh"
 ·rw [if_neg z]
  have zz : decide (a1 * b3 = b1 * a3) = false := decide_eq_false z
  clear z
  walk_at "evh"
structure IsShp (l : List (Rat × Rat)) : Prop where
 three : 3 <= l.length
 first : ∀ k q0 q, l[0]? = some q0 -> l[k + 1]? = some q -> ltR q0 q
 conv : ∀ k a b c, l[(k + l.length - 1) % l.length]? = some a -> l[k]? = some b -> c ∈ l -> c ≠ a -> c ≠ b -> 0 < oR a b c
noncomputable abbrev znx : List (Nat × (List D -> Option W)) := [(14, zwx), (30, zqn), (32, zme), (31, mWay)]
noncomputable def znk : List D -> Option W := run (tab znx) zll 5
theorem ok_law_is_shape (h14 : Γ 14 = zwx) (h30 : Γ 30 = zqn) (h32 : Γ 32 = zme) (h31 : Γ 31 = mWay) : ∀ ds w, ds.length = 1 -> znk ds = some w -> run Γ zll 5 ds = some w := fun ds w _ h => zna znx (by
 intro p hp
 simp only [znx, zan, zer, or_false] at hp
 rcases hp with rfl | rfl | rfl | rfl <;> assumption) (by decide) ds w h
theorem zwz {n : Nat} {l : List (Rat × Rat)} (hS : IsShp l) (hz : SzL n l) (hn : n <= 1000) (hl : l.length <= 1000) : znk [.lst (l.map stD)] = some (.val (.bl true)) := by
 unfold znk
 generalize hΓ : tab znx = Γ
 have h14 : Γ 14 = zwx := by rw [<- hΓ]; rfl
 have h30 : Γ 30 = zqn := by rw [<- hΓ]; rfl
 have h32 : Γ 32 = zme := by rw [<- hΓ]; rfl
 have h31 : Γ 31 = mWay := by rw [<- hΓ]; rfl
 clear hΓ
 have three := hS.three
 generalize hL : l.map stD = L
 have hLl : L.length = l.length := by rw [<- hL, zad]
 obtain ⟨r1, f1, o1, e1⟩ : ∃ r, forN (zle (.name 1)) (exs Γ (.cons (.iff (.or (.not (.isi (.var 1) .tuple)) (.cmp .ne (.bi .len (.cons (.var 1) .nil)) (.int 2))) (.cons (.ret (.bl false)) .nil) .nil) (.cons (.iff (.or (.not (.call 14 (.cons (.ix (.var 1) (.int 0)) .nil))) (.not (.call 14 (.cons (.ix (.var 1) (.int 1)) .nil)))) (.cons (.ret (.bl false)) .nil) .nil) .nil))) L [some (.sh (.lst L)), none, none, none, none] = some (.nx r) /\ ∃ o, r = [some (.sh (.lst L)), o, none, none, none] := by
  refine zpc (I := fun r => ∃ o, r = [some (.sh (.lst L)), o, none, none, none]) L (fun d hd ρ hρ => ?_) _ ⟨none, rfl⟩
  refine x1_1 hρ fun o qz1 => ?_; clear hρ; subst qz1
  rw [<- hL] at hd
  refine x1_2 (zbd.mp hd) fun q hq e => ?_
  subst e
  have i1 := zzt q.1
  have i2 := zzt q.2
  refine ⟨[some (.sh (.lst L)), some (.sh (stD q)), none, none, none], [some (.sh (.lst L)), some (.sh (stD q)), none, none, none], rfl, ?_, ⟨_, rfl⟩⟩
  clear hd hS hz hL hLl
  unfold stD
  walk_at "evh"
 subst e1
 have hC : ∀ a b c d, ev Γ (.comp (.call 30 (.cons (.var 1) .nil)) (.name 1) (.seqV 0) 2 [] .non) [some (.lst L), a, b, c, d] = some (.new (l.map fun q => hD (hom q))) := by
  intro a b c d
  refine znu (g := stD) ?_ (by rw [zbh]; omega) rfl fun q hq => ?_
  ·rw [hL]
   clear hS hz f1 hL hLl
   walk_at "evh"
  ·have f := zuz (hz q hq).1 (hz q hq).2 (by omega)
   clear hS hz f1 hL hLl hq
   walk_at "evh"
 generalize hCC : (l.map fun q => hD (hom q)) = C at *
 have hCl : C.length = l.length := by rw [<- hCC, zad]
 have hCi : ∀ (i : Nat) (q : Rat × Rat), l[i]? = some q -> C[i]? = some (hD (hom q)) := fun i q e => by rw [<- hCC, zak, e]; rfl
 have lfC : lfL C = true := by
  rw [<- hCC]
  clear hCC hC hCl hCi hS hz hl three f1 hL hLl
  induction l with
  | nil => rfl
  | cons q l ih => rw [zba]; unfold lfL; rw [ih]; rfl
 have hb : ∀ q ∈ l, HB (n + n) (hom q) := fun q hq => yev (hz q hq).1 (hz q hq).2
 obtain ⟨r2, f2, o2, e2⟩ : ∃ r, forN (zle (.name 3)) (exs Γ (.cons (.iff (.not (.call 32 (.cons (.ix (.var 2) (.int 0)) (.cons (.ix (.var 2) (.var 3)) .nil)))) (.cons (.ret (.bl false)) .nil) .nil) .nil)) (zld 1 ((C.length : Int) - 1).toNat) [some (.sh (.lst L)), o1, some (.ow C), none, none] = some (.nx r) /\ ∃ o, r = [some (.sh (.lst L)), o1, some (.ow C), o, none] := by
  refine zpc (I := fun r => ∃ o, r = [some (.sh (.lst L)), o1, some (.ow C), o, none]) _ (fun d hd ρ hρ => ?_) _ ⟨none, rfl⟩
  refine x1_1 hρ fun o qz1 => ?_; clear hρ; subst qz1
  unfold zld at hd
  refine x1_2 (zbd.mp hd) fun i hi e => ?_
  subst e
  have hi' := zcl.mp hi
  have hil : i + 1 < l.length := by omega
  have g0 : l[0]? = some (l[0]'(by omega)) := zae _
  have g1 : l[i + 1]? = some (l[i + 1]'hil) := zae _
  have b0 := (zys _ _).mpr (hS.first i _ _ g0 g1)
  have w := ztv (hb _ (zar g0)) (hb _ (zar g1)) (by omega)
  rw [b0] at w
  have a0 : L2.atI C 0 = some (hD (hom (l[0]'(by omega)))) := by rw [znv (zfv _) (by omega)]; exact hCi 0 _ g0
  have a1 : L2.atI C (1 + (i : Int)) = some (hD (hom (l[i + 1]'hil))) := by rw [znv (by omega) (by omega), show (1 + (i : Int)).toNat = i + 1 by omega]; exact hCi (i + 1) _ g1
  generalize hD (hom (l[0]'(by omega))) = d0 at *
  generalize hD (hom (l[i + 1]'hil)) = d1 at *
  refine ⟨[some (.sh (.lst L)), o1, some (.ow C), some (.sh (.int (1 + (i : Int)))), none], [some (.sh (.lst L)), o1, some (.ow C), some (.sh (.int (1 + (i : Int)))), none], rfl, ?_, ⟨_, rfl⟩⟩
  clear hS hz hb g0 g1 b0 hC hCC hCi f1 hd hi hi' hL hLl hCl lfC
  walk_at "evh"
 subst e2
 obtain ⟨r3, f3, _⟩ : ∃ r, forN (zle (.name 3)) (exs Γ (.cons (.frr (.name 4) (.seqV 2) (.cons (.iff (.and (.cmp .ne (.var 4) (.ix (.var 2) (.var 3))) (.cmp .ne (.var 4) (.ix (.var 2) (.bin .sub (.var 3) (.int 1))))) (.cons (.iff (.cmp .le (.call 31 (.cons (.ix (.var 2) (.bin .sub (.var 3) (.int 1))) (.cons (.ix (.var 2) (.var 3)) (.cons (.var 4) .nil)))) (.int 0)) (.cons (.ret (.bl false)) .nil) .nil) .nil) .nil) .nil)) .nil)) (zld 0 ((C.length : Int)).toNat) [some (.sh (.lst L)), o1, some (.ow C), o2, none] = some (.nx r) /\ ∃ s b o h, b.d = .lst C /\ r = [some (.sh (.lst L)), s, some b, o, h] := by
  refine zpc (I := fun r => ∃ s b o h, b.d = .lst C /\ r = [some (.sh (.lst L)), s, some b, o, h]) _ (fun d hd ρ hρ => ?_) _ ⟨o1, .ow C, o2, none, rfl, rfl⟩
  refine x4_2 hρ fun s b o h hbd qz5 => ?_; clear hρ; subst qz5
  unfold zld at hd
  refine x1_2 (zbd.mp hd) fun i hi e => ?_
  subst e
  have hi' := zcl.mp hi
  rw [zdt, hCl] at hi'
  rw [zjc]
  have gb : l[i]? = some (l[i]'hi') := zae _
  have him : (i + l.length - 1) % l.length < l.length := zel _ (by omega)
  have ga : l[(i + l.length - 1) % l.length]? = some (l[(i + l.length - 1) % l.length]'him) := zae _
  have conv := fun c => hS.conv i _ _ c ga gb
  have a1 : L2.atI C (i : Int) = some (hD (hom (l[i]'hi'))) := by rw [znv (by omega) (by omega), zdt]; exact hCi i _ gb
  have a0 : L2.atI C ((i : Int) - 1) = some (hD (hom (l[(i + l.length - 1) % l.length]'him))) := by
   rcases zjr i with z | z
   ·subst z
    rw [zsu (by omega) (by omega), hCl, show (((0 : Nat) : Int) - 1 + (l.length : Int)).toNat = (0 + l.length - 1) % l.length by rw [zbn (by omega)]; omega]
    exact hCi _ _ ga
   ·rw [znv (by omega) (by omega), show ((i : Int) - 1).toNat = (i + l.length - 1) % l.length by
     rw [show i + l.length - 1 = (i - 1) + l.length by omega, zfp, zbn (by omega)]; omega]
    exact hCi _ _ ga
  have hba := hb _ (zar ga)
  have hbb := hb _ (zar gb)
  generalize l[i]'hi' = qb at *
  generalize l[(i + l.length - 1) % l.length]'him = qa at *
  have inner : ∀ (s' h' : Option B), ∃ r, forN (zle (.name 4)) (exs Γ (.cons (.iff (.and (.cmp .ne (.var 4) (.ix (.var 2) (.var 3))) (.cmp .ne (.var 4) (.ix (.var 2) (.bin .sub (.var 3) (.int 1))))) (.cons (.iff (.cmp .le (.call 31 (.cons (.ix (.var 2) (.bin .sub (.var 3) (.int 1))) (.cons (.ix (.var 2) (.var 3)) (.cons (.var 4) .nil)))) (.int 0)) (.cons (.ret (.bl false)) .nil) .nil) .nil) .nil) .nil)) C [some (.sh (.lst L)), s', some (.sh (.lst C)), some (.sh (.int (i : Int))), h'] = some (.nx r) /\ ∃ h, r = [some (.sh (.lst L)), s', some (.sh (.lst C)), some (.sh (.int (i : Int))), h] := by
   intro s' h'
   refine zpc (I := fun r => ∃ h, r = [some (.sh (.lst L)), s', some (.sh (.lst C)), some (.sh (.int (i : Int))), h]) C (fun d hd ρ hρ => ?_) _ ⟨h', rfl⟩
   refine x1_1 hρ fun h qz1 => ?_; clear hρ; subst qz1
   rw [<- hCC] at hd
   refine x1_2 (zbd.mp hd) fun qc hqc e => ?_
   subst e
   refine ⟨[some (.sh (.lst L)), s', some (.sh (.lst C)), some (.sh (.int (i : Int))), some (.sh (hD (hom qc)))], [some (.sh (.lst L)), s', some (.sh (.lst C)), some (.sh (.int (i : Int))), some (.sh (hD (hom qc)))], rfl, ?_, ⟨_, rfl⟩⟩
   have c1 := ymd (hom qc) (hom qb)
   have c2 := ymd (hom qc) (hom qa)
   by_cases z1 : hom qc = hom qb
   ·rw [decide_eq_false (fun k => k z1)] at c1
    clear c2 conv hS hz hb hC hCC hCi f1 f2 hd hi hi' hL hLl hCl lfC ga gb hba hbb hbd z1 him hqc
    walk_at "evh"
   ·rw [decide_eq_true z1] at c1
    by_cases z2 : hom qc = hom qa
    ·rw [decide_eq_false (fun k => k z2)] at c2
     clear conv hS hz hb hC hCC hCi f1 f2 hd hi hi' hL hLl hCl lfC ga gb hba hbb hbd z1 z2 him hqc
     walk_at "evh"
    ·rw [decide_eq_true z2] at c2
     have dp := ypt (conv qc hqc (fun e => z2 (by rw [e])) (fun e => z1 (by rw [e])))
     have w := ymi hba hbb (hb qc hqc) (by omega)
     have dn : decide (det3 (hom qa) (hom qb) (hom qc) <= 0) = false := decide_eq_false (by omega)
     clear conv hS hz hb hC hCC hCi f1 f2 hd hi hi' hL hLl hCl lfC ga gb hba hbb hbd z1 z2 him hqc dp
     walk_at "evh"
  cases b with
  | ow C' =>
   have : C' = C := by injection hbd
   subst this
   refine xeaea (inner (s.map fun x => .sh x.d) (h.map fun x => .sh x.d)) fun r q1 h2 q2 => ?_
   subst q2
   refine ⟨[some (.sh (.lst L)), s, some (.ow C'), some (.sh (.int (i : Int))), h], _, rfl, ?_, ⟨s.map fun x => .sh x.d, .sh (.lst C'), some (.sh (.int (i : Int))), h2, rfl, rfl⟩⟩
   have fz := @frz5
   clear conv hS hz hb hC hCC hCi f1 f2 hd hi hi' hL hLl hCl lfC ga gb hba hbb hbd him inner a0 a1
   walk_at "evh"
  | sh C' =>
   have : C' = .lst C := hbd
   subst this
   refine xeaea (inner s h) fun r q1 h2 q2 => ?_
   subst q2
   refine ⟨[some (.sh (.lst L)), s, some (.sh (.lst C)), some (.sh (.int (i : Int))), h], _, rfl, ?_, ⟨s, .sh (.lst C), some (.sh (.int (i : Int))), h2, rfl, rfl⟩⟩
   clear conv hS hz hb hC hCC hCi f1 f2 hd hi hi' hL hLl hCl lfC ga gb hba hbb hbd him inner a0 a1
   walk_at "evh"
 have d3 : decide ((L.length : Int) < 3) = false := decide_eq_false (by omega)
 have rr1 : (-4611686018427387904 <= (C.length : Int) /\ (C.length : Int) < 4611686018427387904) = True := eq_true (by omega)
 unfold zll
 generalize hce : E.comp _ _ _ _ _ _ = ce at *
 clear hS hz hb hCC hCi hL hLl hCl hl three hce
 walk_at "evh"
end
open Sf
noncomputable abbrev Lft (ps : List (Int × Int)) : Prop := ∃ o p q, o ∈ ps /\ p ∈ ps /\ q ∈ ps /\ 0 < Hu.o3 o p q
theorem ybi {ps : List (Int × Int)} (h : Lft ps) : Hu.RingOk (zmc ps) (Hu.ring (zmc ps)) /\ 3 <= (Hu.ring (zmc ps)).length := by
 refine x3_4 h fun o p q ho hp hq hl => ?_; clear h
 have ne : o ≠ p := fun e => by subst e; rw [Hu.o3_aa] at hl; omega
 have h2 : 2 <= (zmc ps).length := by
  have mo := sortP_mem.mpr ho
  have mp := sortP_mem.mpr hp
  match hs : zmc ps with
  | [] => rw [hs] at mo; cases mo
  | [x] =>
   rw [hs] at mo mp
   exact absurd ((zaw.mp mo).trans (zaw.mp mp).symm) ne
  | x :: y :: r => simp
 have R := Hu.ring_ok (ydd ps) h2
 exact ⟨R, R.big o p q (sortP_mem.mpr ho) (sortP_mem.mpr hp) (sortP_mem.mpr hq) (by omega)⟩
theorem zvy (b f s : Int) (p : Int × Int) : (spot b f s p).1 = ((p.1 : Rat) * (b : Rat) + (f : Rat)) * (s : Rat)⁻¹ := by
 unfold spot
 simp only
 rw [zgz, Rat.div_def, Rat.intCast_add, zcj]
theorem zvx (b f s : Int) (p : Int × Int) : (spot b f s p).2 = ((p.2 : Rat) * (b : Rat) - 2 * (f : Rat)) * (s : Rat)⁻¹ := by
 unfold spot
 simp only
 rw [zgz, Rat.div_def, zhp, zcj, zcj]
 rfl
theorem yom (a b c : Int × Int) : ((Hu.o3 a b c : Int) : Rat) = ((b.1 : Rat) - (a.1 : Rat)) * ((c.2 : Rat) - (a.2 : Rat)) - ((b.2 : Rat) - (a.2 : Rat)) * ((c.1 : Rat) - (a.1 : Rat)) := by
 unfold Hu.o3 Hu.cr Hu.sb
 simp only [zhp, zcj]
theorem yok (b f s : Int) (x y z : Int × Int) : oR (spot b f s x) (spot b f s y) (spot b f s z) = ((b : Rat) * (s : Rat)⁻¹) * ((b : Rat) * (s : Rat)⁻¹) * ((Hu.o3 x y z : Int) : Rat) := by
 unfold oR
 rw [zvy, zvy, zvy, zvx, zvx, zvx, yom]
 generalize (s : Rat)⁻¹ = k
 grind
theorem ymf {b s : Int} (hb : 1 <= b) (hs : 1 <= s) : (0 : Rat) < (b : Rat) * (s : Rat)⁻¹ := zdl (cast_pos.mpr (by omega)) (Rat.inv_pos.mpr (cast_pos.mpr (by omega)))
theorem zyc {b f s : Int} (hb : 1 <= b) (hs : 1 <= s) {x y z : Int × Int} (h : 0 < Hu.o3 x y z) : 0 < oR (spot b f s x) (spot b f s y) (spot b f s z) := by
 rw [yok]
 exact zdl (zdl (ymf hb hs) (ymf hb hs)) (cast_pos.mpr h)
theorem zyi {b f s : Int} (hb : 1 <= b) (hs : 1 <= s) {x y : Int × Int} (h : Hu.lt x y) : ltR (spot b f s x) (spot b f s y) := by
 have hk := Rat.inv_pos.mpr (cast_pos.mpr (show 0 < s by omega))
 have hb' := cast_pos.mpr (show 0 < b by omega)
 unfold ltR
 rw [zvy, zvy, zvx, zvx]
 rcases h with h | ⟨h1, h2⟩
 ·left
  rw [zcu hk]
  have := (zcu hb').mpr (zei.mpr h)
  grind
 ·right
  refine ⟨by rw [h1], ?_⟩
  rw [zcu hk]
  have := (zcu hb').mpr (zei.mpr h2)
  grind
theorem yoq {R : List (Int × Int)} {i : Nat} {a : Int × Int} (h : R[i]? = some a) : i < R.length := (zal.mp h).1
theorem nd_ne {R : List (Int × Int)} (nd : R.Nodup) {i j : Nat} {a b : Int × Int} (h1 : R[i]? = some a) (h2 : R[j]? = some b) (h : i ≠ j) : a ≠ b := fun e => by
 subst e
 refine x1_1 (zal.mp h1) fun l1 e1 => ?_
 refine x1_1 (zal.mp h2) fun l2 e2 => ?_
 exact h ((zft nd).mp (e1.trans e2.symm))
theorem shp_of {l R : List (Int × Int)} (hR : Hu.RingOk l R) (h3 : 3 <= R.length) {b f s : Int} (hb : 1 <= b) (hs : 1 <= s) : IsShp (R.map (spot b f s)) := by
 refine ⟨by rw [zad]; exact h3, fun k q0 q h0 hk => ?_, fun k a b' c ha hb' hc ca cb => ?_⟩
 ·rw [zak] at h0 hk
  refine x1_2 (zab.mp h0) fun p0 e0 qz2 => ?_; subst qz2
  refine x1_2 (zab.mp hk) fun p e1 qz2 => ?_; subst qz2
  rcases hR.first p0 e0 p (hR.sub p (zar e1)) with e | e
  ·exact absurd e.symm (nd_ne hR.nd e0 e1 (by omega))
  ·exact zyi hb hs e
 ·rw [zak, zad] at ha
  rw [zak] at hb'
  refine x1_2 (zab.mp ha) fun pa ea qz2 => ?_; subst qz2
  refine x1_2 (zab.mp hb') fun pb eb qz2 => ?_; subst qz2
  refine x1_2 (zbd.mp hc) fun pc hpc qz2 => ?_; subst qz2
  have hk := yoq eb
  have e : ((k + R.length - 1) % R.length + 1) % R.length = k := by
   rcases zjr k with z | z
   ·subst z
    rw [zbn (show 0 + R.length - 1 < R.length by omega), show 0 + R.length - 1 + 1 = R.length by omega, Nat.mod_self]
   ·rw [show k + R.length - 1 = (k - 1) + R.length by omega, zfp, zbn (show k - 1 < R.length by omega), show k - 1 + 1 = k by omega, zbn hk]
  exact zyc hb hs (hR.strict _ _ _ _ ea (by rw [e]; exact eb) hpc (fun z => ca (by rw [z])) (fun z => cb (by rw [z])))
section
variable {Γ : Nat -> List D -> Option W}
end
open Sf
theorem yhr {b f s : Int} (hb : 1 <= b) (hs : 1 <= s) {x y : Int × Int} (h : x ≠ y) : spot b f s x ≠ spot b f s y := fun e => by
 have irr : ∀ q : Rat × Rat, ¬ ltR q q := fun q h => by
  rcases h with h | h
  ·exact Rat.lt_irrefl h
  ·exact Rat.lt_irrefl h.2
 rcases Hu.lt_tri x y with q | q | q
 ·have := zyi (f := f) hb hs q
  rw [e] at this; exact irr _ this
 ·exact h q
 ·have := zyi (f := f) hb hs q
  rw [e] at this; exact irr _ this
theorem ylp {b f s : Int} (hb : 1 <= b) (hs : 1 <= s) : ∀ {R : List (Int × Int)}, R.Nodup -> (R.map (spot b f s)).Nodup
 | [], _ => zhw
 | x :: R, h => by
  rw [zdh] at h
  rw [zba, zdh]
  refine ⟨fun hm => ?_, ylp hb hs h.2⟩
  refine x1_2 (zbd.mp hm) fun y hy e => ?_
  exact yhr hb hs (fun z => h.1 (by rw [<- z]; exact hy)) e
theorem ShapeBy.shp {m : Nat} {l : List (Rat × Rat)} {ps : List (Int × Int)} {b f s : Int} (h : ShapeBy m l ps b f s) : IsShp l /\ l.Nodup := by
 refine x0_2 (ybi (ps := ps) h.pts.left) fun RO r3 => ?_
 rw [h.eq]
 exact ⟨shp_of RO r3 h.b0 h.s0, ylp h.b0 h.s0 RO.nd⟩
theorem ydo (a b : Rat) : a < b ∨ a = b ∨ b < a := by
 by_cases h : a < b
 ·exact .inl h
 ·by_cases e : a = b
  ·exact .inr (.inl e)
  ·exact .inr (.inr (by grind))
theorem yle {a b c : Rat} (h1 : a < b) (h2 : b < c) : a < c := by grind
theorem zyj (a : Rat × Rat) : ¬ ltR a a := fun h => by
 rcases h with h | ⟨_, h⟩ <;> exact Rat.lt_irrefl h
theorem zsg {a b c : Rat × Rat} (h1 : ltR a b) (h2 : ltR b c) : ltR a c := by
 unfold ltR at *
 rcases h1 with h1 | ⟨e1, h1⟩ <;> rcases h2 with h2 | ⟨e2, h2⟩
 ·exact .inl (yle h1 h2)
 ·exact .inl (by rw [<- e2]; exact h1)
 ·exact .inl (by rw [e1]; exact h2)
 ·exact .inr ⟨e1.trans e2, yle h1 h2⟩
theorem yor (a b : Rat × Rat) : ltR a b ∨ a = b ∨ ltR b a := by
 rcases ydo a.1 b.1 with h | h | h
 ·exact .inl (.inl h)
 ·rcases ydo a.2 b.2 with k | k | k
  ·exact .inl (.inr ⟨h, k⟩)
  ·exact .inr (.inl (zjh h k))
  ·exact .inr (.inr (.inr ⟨h.symm, k⟩))
 ·exact .inr (.inr (.inl h))
theorem IsShp.map {l : List (Rat × Rat)} {f : Rat × Rat -> Rat × Rat} (hS : IsShp l) (hl : ∀ a b, ltR a b -> ltR (f a) (f b)) (ho : ∀ a b c, 0 < oR a b c -> 0 < oR (f a) (f b) (f c)) : IsShp (l.map f) := by
 refine ⟨by rw [zad]; exact hS.three, fun k q0 q h0 hk => ?_, fun k a b c ha hb hc na nb => ?_⟩
 ·rw [zak] at h0 hk
  refine x1_2 (zab.mp h0) fun x hx e => ?_
  refine x1_2 (zab.mp hk) fun y hy e2 => ?_
  rw [<- e, <- e2]
  exact hl _ _ (hS.first k x y hx hy)
 ·rw [zad, zak] at ha
  rw [zak] at hb
  refine x1_2 (zab.mp ha) fun x hx e => ?_
  refine x1_2 (zab.mp hb) fun y hy e2 => ?_
  refine x1_2 (zbd.mp hc) fun z hz e3 => ?_
  rw [<- e, <- e2, <- e3]
  exact ho _ _ _ (hS.conv k x y z hx hy hz (fun q => na (by rw [<- e3, q, e])) fun q => nb (by rw [<- e3, q, e2]))
noncomputable def pshR (p q : Rat × Rat) : Rat × Rat := (q.1 + p.1, q.2 + p.2)
noncomputable def szR (k : Rat) (q : Rat × Rat) : Rat × Rat := (q.1 * k, q.2 * k)
noncomputable def ngR (q : Rat × Rat) : Rat × Rat := (-q.1, -q.2)
theorem yos {p a b : Rat × Rat} (h : ltR a b) : ltR (pshR p a) (pshR p b) := by
 unfold ltR pshR at *
 rcases h with h | ⟨e, h⟩
 ·exact .inl (by grind)
 ·exact .inr ⟨by grind, by grind⟩
theorem ltR_sz {k : Rat} (hk : 0 < k) {a b : Rat × Rat} (h : ltR a b) : ltR (szR k a) (szR k b) := by
 unfold ltR szR at *
 rcases h with h | ⟨e, h⟩
 ·exact .inl ((zcu hk).mpr h)
 ·exact .inr ⟨by rw [e], (zcu hk).mpr h⟩
theorem oR_psh (p a b c : Rat × Rat) : oR (pshR p a) (pshR p b) (pshR p c) = oR a b c := by unfold oR pshR; grind
theorem oR_sz (k : Rat) (a b c : Rat × Rat) : oR (szR k a) (szR k b) (szR k c) = k * k * oR a b c := by unfold oR szR; grind
theorem oR_ng (a b c : Rat × Rat) : oR (ngR a) (ngR b) (ngR c) = oR a b c := by unfold oR ngR; grind
theorem IsShp.push {l : List (Rat × Rat)} (hS : IsShp l) (p : Rat × Rat) : IsShp (l.map (pshR p)) := hS.map (fun _ _ h => yos h) fun a b c h => by rw [oR_psh]; exact h
theorem IsShp.size {l : List (Rat × Rat)} (hS : IsShp l) {k : Rat} (hk : 0 < k) : IsShp (l.map (szR k)) := hS.map (fun _ _ h => ltR_sz hk h) fun a b c h => by rw [oR_sz]; exact zdl (zdl hk hk) h
noncomputable def rot {α : Type} (l : List α) (k : Nat) : List α := l.drop k ++ l.take k
theorem zlp {α : Type} {l : List α} {k : Nat} : (rot l k).length = l.length := by
 unfold rot
 rw [zap, zcz, zeb]
 omega
theorem zng {α : Type} {l : List α} {k i : Nat} (hk : k < l.length) (hi : i < l.length) : (rot l k)[i]? = l[(i + k) % l.length]? := by
 unfold rot
 rcases zgf (i + k) l.length with h | h
 ·rw [zax (by rw [zcz]; omega), zgo, zbn h, ziw]
 ·rw [zao (by rw [zcz]; omega), zcz, zie (by omega), zjq h, zbn (by omega)]
  congr 1
  omega
theorem rot_mem {α : Type} {l : List α} {k : Nat} {x : α} : x ∈ rot l k ↔ x ∈ l := by
 unfold rot
 rw [zcc, Or.comm, <- zcc, zen]
theorem zxy {α β : Type} (f : α -> β) (l : List α) (k : Nat) : (rot l k).map f = rot (l.map f) k := by
 unfold rot
 rw [zbw, List.map_drop, List.map_take]
theorem rot_0 {α : Type} (l : List α) : rot l 0 = l := by simp [rot]
theorem ynh {α : Type} {l : List α} {k j : Nat} (hk : k < l.length) (hj : j < l.length) : rot (rot l k) j = rot l ((j + k) % l.length) := by
 have hm : (j + k) % l.length < l.length := zel _ (by omega)
 apply zgx
 intro i
 rcases zgf i l.length with h | h
 ·rw [zng (by rw [zlp]; exact hj) (by rw [zlp]; exact h), zlp, zng hk (zel _ (by omega)), zng hm h]
  congr 1
  rw [zem, zhr, <- zem, zem i, zhr, <- zem]
  congr 1
  omega
 ·rw [zeo (by rw [zlp, zlp]; exact h), zeo (by rw [zlp]; exact h)]
structure Fst (l : List (Rat × Rat)) (k : Nat) : Prop where
 lt : k < l.length
 low : ∀ j p q, j ≠ k -> l[k]? = some p -> l[j]? = some q -> ltR p q
theorem Fst.uniq {l : List (Rat × Rat)} {k j : Nat} (h : Fst l k) (g : Fst l j) : k = j := by
 refine zcw fun ne => ?_
 have a := h.low j _ _ (zda ne) (zae h.lt) (zae g.lt)
 have b := g.low k _ _ ne (zae g.lt) (zae h.lt)
 exact zyj _ (zsg a b)
theorem IsShp.fst {l : List (Rat × Rat)} (hS : IsShp l) : Fst l 0 := ⟨by have := hS.three; omega, fun j p q hj h0 h1 => by
 cases j with
 | zero => exact absurd rfl hj
 | succ j => exact hS.first j p q h0 h1⟩
theorem IsShp.of_rot {l : List (Rat × Rat)} {k : Nat} (h3 : 3 <= l.length) (conv : ∀ k a b c, l[(k + l.length - 1) % l.length]? = some a -> l[k]? = some b -> c ∈ l -> c ≠ a -> c ≠ b -> 0 < oR a b c) (hk : Fst l k) : IsShp (rot l k) := by
 have kl := hk.lt
 refine ⟨by rw [zlp]; exact h3, fun j q0 q h0 hj => ?_, fun j a b c ha hb hc na nb => ?_⟩
 ·have hj1 : j + 1 < l.length := by
   have := (zal.mp hj).1
   rw [zlp] at this; exact this
  rw [zng kl (by omega), zff, zbn kl] at h0
  rw [zng kl hj1] at hj
  refine hk.low _ _ _ ?_ h0 hj
  rcases zgf (j + 1 + k) l.length with z | z
  ·rw [zbn z]; omega
  ·rw [zjq z, zbn (by omega)]; omega
 ·have hjl : j < l.length := by
   have := (zal.mp hb).1
   rw [zlp] at this; exact this
  rw [zlp, zng kl (zel _ (by omega))] at ha
  rw [zng kl hjl] at hb
  rw [rot_mem] at hc
  refine conv ((j + k) % l.length) a b c ?_ hb hc na nb
  rw [<- ha]
  congr 1
  have e : ((j + k) % l.length + l.length - 1) % l.length = ((j + k) % l.length + (l.length - 1)) % l.length := by congr 1; omega
  rw [e, zem, zhr, <- zem, zem ((j + l.length - 1) % l.length), zhr, <- zem]
  congr 1
  omega
theorem ypw {l : List (Rat × Rat)} (hS : IsShp l) : ∀ k a b c, (l.map ngR)[(k + (l.map ngR).length - 1) % (l.map ngR).length]? = some a -> (l.map ngR)[k]? = some b -> c ∈ l.map ngR -> c ≠ a -> c ≠ b -> 0 < oR a b c := fun k a b c ha hb hc na nb => by
 rw [zad, zak] at ha
 rw [zak] at hb
 refine x1_2 (zab.mp ha) fun x hx e => ?_
 refine x1_2 (zab.mp hb) fun y hy e2 => ?_
 refine x1_2 (zbd.mp hc) fun z hz e3 => ?_
 rw [<- e, <- e2, <- e3, oR_ng]
 exact hS.conv k x y z hx hy hz (fun q => na (by rw [<- e3, q, e])) fun q => nb (by rw [<- e3, q, e2])
noncomputable def low (l : List (Rat × Rat)) : Nat -> Nat -> Nat
 | 0, f => f
 | n + 1, f => open Classical in low l n (if ltR (l.getD (l.length - (n + 1)) (0, 0)) (l.getD f (0, 0)) then l.length - (n + 1) else f)
theorem zzu {l : List (Rat × Rat)} (nd : l.Nodup) : ∀ (n f : Nat), n <= l.length -> f < l.length -> (∀ j, j < l.length - n -> j ≠ f -> ltR (l.getD f (0, 0)) (l.getD j (0, 0))) -> Fst l (low l n f)
 | 0, f, _, hf, h => ⟨hf, fun j p q hj h0 h1 => by
  have jl := (zal.mp h1).1
  have := h j jl hj
  rw [zaz, zaz] at this
  unfold low at h0
  rw [h0, h1] at this
  exact this⟩
 | n + 1, f, hn, hf, h => by
  unfold low
  have ne : ∀ i j, i < l.length -> j < l.length -> i ≠ j -> l.getD i (0, 0) ≠ l.getD j (0, 0) := fun i j hi hj hij e => by
   rw [zaz, zaz, zae hi, zae hj] at e
   exact hij ((zft nd).mp e)
  split
  ·rename_i c
   refine zzu nd n _ (by omega) (by omega) fun j hj hne => ?_
   by_cases e : j = f
   ·rw [e]; exact c
   ·exact zsg c (h j (by omega) e)
  ·rename_i c
   refine zzu nd n f (by omega) hf fun j hj hne => ?_
   by_cases e : j = l.length - (n + 1)
   ·rw [<- e] at c
    rcases yor (l.getD f (0, 0)) (l.getD j (0, 0)) with t | t | t
    ·exact t
    ·exact absurd t (ne _ _ hf (by omega) (zda hne))
    ·exact absurd t c
   ·exact h j (by omega) hne
open Sf
theorem cutTo {l : List D} {a : Nat} (h : a <= l.length) : cutD l none (some (a : Int)) = l.take a := by
 unfold cutD
 rw [HT.sIx_none, HT.sIx_nat, zhz, Nat.sub_zero, Nat.min_eq_left h]
theorem yfu {l : List D} {a : Nat} (h : a <= l.length) : cutD l (some (a : Int)) none = l.drop a := by
 unfold cutD
 rw [HT.sIx_none, HT.sIx_nat, Nat.min_eq_left h, zil (by rw [zcz]; exact zai _)]
section
variable {Γ : Nat -> List D -> Option W}
noncomputable abbrev zue : List (Nat × (List D -> Option W)) := [(9, zyf)]
noncomputable def zsf : List D -> Option W := run (tab zue) zst 2
theorem ok_added (h9 : Γ 9 = zyf) : ∀ ds w, ds.length = 2 -> zsf ds = some w -> run Γ zst 2 ds = some w := fun ds w _ h => zna zue (by
 intro p hp
 rcases zaw.mp hp with rfl; exact h9) (by decide) ds w h
theorem ygu {q p : Rat × Rat} (hq : Sz 64 q.1 /\ Sz 64 q.2) (hp : Sz 200 p.1 /\ Sz 200 p.2) : zsf [stD q, stD p] = some (.val (stD (pshR p q))) := by
 unfold zsf
 generalize hΓ : tab zue = Γ
 have h9 : Γ 9 = zyf := by rw [<- hΓ]; rfl
 have q1 : zyf [fr q.1, fr p.1] = some (.val (fr (q.1 + p.1))) := zto (zpr hq.1 hp.1 (by decide) (by decide))
 have q2 : zyf [fr q.2, fr p.2] = some (.val (fr (q.2 + p.2))) := zto (zpr hq.2 hp.2 (by decide) (by decide))
 show _ = some (W.val (.tup [fr (q.1 + p.1), fr (q.2 + p.2)]))
 generalize fr (q.1 + p.1) = X at *
 generalize fr (q.2 + p.2) = Y at *
 clear hq hp hΓ
 unfold zst stD
 walk_at "evh"
noncomputable abbrev zrp : List (Nat × (List D -> Option W)) := [(67, zsf)]
noncomputable def zsd : List D -> Option W := run (tab zrp) zog 2
theorem ok_pushed (h67 : Γ 67 = zsf) : ∀ ds w, ds.length = 2 -> zsd ds = some w -> run Γ zog 2 ds = some w := fun ds w _ h => zna zrp (by
 intro p hp
 rcases zaw.mp hp with rfl; exact h67) (by decide) ds w h
theorem ybk {l : List (Rat × Rat)} {p : Rat × Rat} (hl : l.length <= 1000) (hz : SzL 64 l) (hp : Sz 200 p.1 /\ Sz 200 p.2) : zsd [.lst (l.map stD), stD p] = some (.new ((l.map (pshR p)).map stD)) := by
 unfold zsd
 generalize hΓ : tab zrp = Γ
 have h67 : Γ 67 = zsf := by rw [<- hΓ]; rfl
 have hcomp : ev Γ (.comp (.call 67 (.cons (.var 1) (.cons (.var 2) .nil))) (.name 1) (.seqV 0) 2 [1] .non) [some (.lst (l.map stD)), some (stD p)] = some (.new (l.map fun q => stD (pshR p q))) := by
  refine znu (g := stD) ?_ (by rw [zbh]; omega) rfl fun q hq => ?_
  ·generalize stD p = P
   clear hz hp hΓ
   walk_at "evh"
  ·have a := ygu (hz q hq) hp
   generalize stD (pshR p q) = O at *
   generalize stD q = Q at *
   generalize stD p = P at *
   generalize l.map stD = LL at *
   clear hz hp hΓ hq
   walk_at "evh"
 rw [zcn]
 show run Γ zog 2 _ = some (.new (l.map fun q => stD (pshR p q)))
 generalize (l.map fun q => stD (pshR p q)) = O at *
 generalize stD p = P at *
 generalize l.map stD = LL at *
 unfold zog
 generalize hce : E.comp _ _ _ _ _ _ = ce at *
 clear hz hp hΓ hl hce
 walk_at "evh"
noncomputable abbrev yaz : List (Nat × (List D -> Option W)) := [(13, zlc)]
noncomputable def zyh : List D -> Option W := run (tab yaz) zms 2
theorem ok_law_added (h13 : Γ 13 = zlc) : ∀ ds w, ds.length = 2 -> zyh ds = some w -> run Γ zms 2 ds = some w := fun ds w _ h => zna yaz (by
 intro p hp
 rcases zaw.mp hp with rfl; exact h13) (by decide) ds w h
theorem yfq {x y : Rat} (hx : Sz 200 x) (hy : Sz 200 y) : ((x.den : Int) * (y.den : Int)) ≠ 0 /\ ((x.den : Int) * (y.den : Int)).natAbs < 2 ^ 400 :=
 ⟨zdr (by have := zli x; omega) (by have := zli y; omega), zmm (zkl hx) (zkl hy)⟩
theorem rat_of (x : Rat) : Rat.divInt x.num (x.den : Int) = x := by
 rw [Rat.divInt_ofNat]
 exact Rat.mkRat_self x
theorem add_r (x y : Rat) : Rat.divInt (x.num * (y.den : Int) + y.num * (x.den : Int)) ((x.den : Int) * (y.den : Int)) = x + y := by
 have dx : (x.den : Int) ≠ 0 := by have := zli x; omega
 have dy : (y.den : Int) ≠ 0 := by have := zli y; omega
 have e := zgc x.num y.num dx dy
 rw [rat_of, rat_of] at e
 exact e.symm
theorem mul_r (x y : Rat) : Rat.divInt (x.num * y.num) ((x.den : Int) * (y.den : Int)) = x * y := by
 have e := zis x.num y.num (d₁ := (x.den : Int)) (d₂ := (y.den : Int))
 rw [rat_of, rat_of] at e
 exact e.symm
theorem zzx {x y : Rat} (hx : Sz 200 x) (hy : Sz 200 y) : zyh [fr x, fr y] = some (.val (fr (x + y))) := by
 unfold zyh
 generalize hΓ : tab yaz = Γ
 have h13 : Γ 13 = zlc := by rw [<- hΓ]; rfl
 have m1 : zkz x.num (y.den : Int) = true := zks hx.t (zkl hy) (by decide) (by decide)
 have m2 : zkz y.num (x.den : Int) = true := zks hy.t (zkl hx) (by decide) (by decide)
 have m3 : zkz (x.den : Int) (y.den : Int) = true := zks (zkl hx) (zkl hy) (by decide) (by decide)
 refine x0_2 (yfq hx hy) fun d0 d1 => ?_
 have r := znj (t := x.num * (y.den : Int) + y.num * (x.den : Int)) d0 (zaq d1 (zdg (by decide) (by decide)))
 rw [add_r] at r
 generalize fr (x + y) = O at *
 clear hx hy hΓ d0 d1
 unfold zms fr
 walk_at "evh"
noncomputable def zyg : List D -> Option W := run (tab yaz) zlf 2
theorem ok_law_times_k16 (h13 : Γ 13 = zlc) : ∀ ds w, ds.length = 2 -> zyg ds = some w -> run Γ zlf 2 ds = some w := fun ds w _ h => zna yaz (by
 intro p hp
 rcases zaw.mp hp with rfl; exact h13) (by decide) ds w h
theorem zzv {x y : Rat} (hx : Sz 200 x) (hy : Sz 200 y) : zyg [fr x, fr y] = some (.val (fr (x * y))) := by
 unfold zyg
 generalize hΓ : tab yaz = Γ
 have h13 : Γ 13 = zlc := by rw [<- hΓ]; rfl
 have m1 : zkz x.num y.num = true := zks hx.t hy.t (by decide) (by decide)
 have m3 : zkz (x.den : Int) (y.den : Int) = true := zks (zkl hx) (zkl hy) (by decide) (by decide)
 refine x0_2 (yfq hx hy) fun d0 d1 => ?_
 have r := znj (t := x.num * y.num) d0 (zaq d1 (zdg (by decide) (by decide)))
 rw [mul_r] at r
 generalize fr (x * y) = O at *
 clear hx hy hΓ d0 d1
 unfold zlf fr
 walk_at "evh"
end
open Sf
theorem ylx (x y : Rat) : cmpD .eq (fr x) (fr y) = some (decide (x = y)) := by
 have d : ∀ z : Rat, dOkL 49 [D.int z.num, D.int (z.den : Int)] = true := fun _ => rfl
 show (if (dOkL 49 [.int x.num, .int (x.den : Int)] && dOkL 49 [.int y.num, .int (y.den : Int)]) = true then some (eqL [.int x.num, .int (x.den : Int)] [.int y.num, .int (y.den : Int)]) else none) = _
 rw [d, d, zgr, if_pos rfl]
 congr 1
 simp only [eqL, eqD, zgq]
 by_cases h : x = y
 ·subst h; simp
 ·have : ¬ (x.num = y.num /\ (x.den : Int) = (y.den : Int)) := fun hz => x0_2 hz fun h1 h2 => h (Rat.ext h1 (by omega))
  rw [decide_eq_false h]
  exact zju.mpr fun e => this (by simpa using e)
noncomputable def ltB (a b : Rat × Rat) : Bool := if a.1 = b.1 then decide (a.2 < b.2) else decide (a.1 < b.1)
theorem yem (a b : Rat × Rat) : ltB a b = true ↔ ltR a b := by
 unfold ltB ltR
 by_cases h : a.1 = b.1
 ·rw [if_pos h, decide_eq_true_eq]
  refine ⟨fun k => .inr ⟨h, k⟩, fun k => ?_⟩
  rcases k with k | k
  ·rw [h] at k; exact absurd k Rat.lt_irrefl
  ·exact k.2
 ·rw [if_neg h, decide_eq_true_eq]
  refine ⟨fun k => .inl k, fun k => ?_⟩
  rcases k with k | k
  ·exact k
  ·exact absurd k.1 h
section
variable {Γ : Nat -> List D -> Option W}
noncomputable abbrev zud : List (Nat × (List D -> Option W)) := [(21, zse)]
noncomputable def zoj : List D -> Option W := run (tab zud) zss 2
theorem ok_ahead (h21 : Γ 21 = zse) : ∀ ds w, ds.length = 2 -> zoj ds = some w -> run Γ zss 2 ds = some w := fun ds w _ h => zna zud (by
 intro p hp
 rcases zaw.mp hp with rfl; exact h21) (by decide) ds w h
theorem ygt {a b : Rat × Rat} (ha : Sz 64 a.1 /\ Sz 64 a.2) (hb : Sz 64 b.1 /\ Sz 64 b.2) : zoj [stD a, stD b] = some (.val (.bl (ltB a b))) := by
 unfold zoj
 generalize hΓ : tab zud = Γ
 have h21 : Γ 21 = zse := by rw [<- hΓ]; rfl
 have b1 : zse [fr a.1, fr b.1] = some (.val (.bl (decide (a.1 < b.1)))) := zto (zpr ha.1 hb.1 (by decide) (by decide))
 have b2 : zse [fr a.2, fr b.2] = some (.val (.bl (decide (a.2 < b.2)))) := zto (zpr ha.2 hb.2 (by decide) (by decide))
 have c1 := ylx a.1 b.1
 unfold ltB zss stD
 by_cases h : a.1 = b.1
 ·rw [if_pos h]
  rw [decide_eq_true h] at c1
  generalize decide (a.2 < b.2) = V at *
  generalize fr a.1 = A1 at *
  generalize fr b.1 = B1 at *
  generalize fr a.2 = A2 at *
  generalize fr b.2 = B2 at *
  clear ha hb hΓ b1 h
  walk_at "evh"
 ·rw [if_neg h]
  rw [decide_eq_false h] at c1
  generalize decide (a.1 < b.1) = V at *
  generalize fr a.1 = A1 at *
  generalize fr b.1 = B1 at *
  generalize fr a.2 = A2 at *
  generalize fr b.2 = B2 at *
  clear ha hb hΓ b2 h
  walk_at "evh"
noncomputable abbrev zxj : Ss := (.cons (.iff (.call 70 (.cons (.ix (.var 0) (.var 2)) (.cons (.ix (.var 0) (.var 1)) .nil))) (.cons (.asg 1 (.var 2)) .nil) .nil) .nil)
theorem yqt {l : List (Rat × Rat)} {k : Nat} (h : k < l.length) : L2.atI (l.map stD) (k : Int) = some (stD (l.getD k (0, 0))) := by
 rw [znv (Int.natCast_nonneg k) (by rw [zad]; omega), zdt, zak, zae h, zaz, zae h]
 rfl
theorem zqz {l : List (Rat × Rat)} {k : Nat} (h : k < l.length) : l.getD k (0, 0) ∈ l := by
 rw [zaz, zae h]
 exact zhe h
theorem ypg (h70 : Γ 70 = zoj) {LL : List D} {k f : Int} {x y : D} {b : Bool} (a1 : L2.atI LL k = some x) (a2 : L2.atI LL f = some y) (h : zoj [x, y] = some (.val (.bl b))) : exs Γ zxj [some (.sh (.lst LL)), some (.sh (.int f)), some (.sh (.int k))] = some (.nx [some (.sh (.lst LL)), some (.sh (.int (if b = true then k else f))), some (.sh (.int k))]) := by
 unfold zxj
 cases b with
 | true =>
  rw [if_pos rfl]
  walk_at "evh"
 | false =>
  rw [if_neg zav]
  walk_at "evh"
theorem yfj (h70 : Γ 70 = zoj) {l : List (Rat × Rat)} (hz : SzL 64 l) : ∀ (n f : Nat) (c : Option B), n <= l.length -> f < l.length ->
  ∃ c', forN (zle (.name 2)) (exs Γ zxj) ((List.range' (l.length - n) n).map fun (i : Nat) => D.int (0 + (i : Int))) [some (.sh (.lst (l.map stD))), some (.sh (.int (f : Int))), c] = some (.nx [some (.sh (.lst (l.map stD))), some (.sh (.int (low l n f : Nat))), c'])
 | 0, f, c, _, _ => ⟨c, rfl⟩
 | n + 1, f, c, hn, hf => by
  have hk : l.length - (n + 1) < l.length := by omega
  have ah := ygt (hz _ (zqz hk)) (hz _ (zqz hf))
  have st := ypg h70 (yqt hk) (yqt hf) ah
  have e : (if ltB (l.getD (l.length - (n + 1)) (0, 0)) (l.getD f (0, 0)) = true then ((l.length - (n + 1) : Nat) : Int) else (f : Int)) = ((if ltB (l.getD (l.length - (n + 1)) (0, 0)) (l.getD f (0, 0)) = true then l.length - (n + 1) else f : Nat) : Int) := by split <;> rfl
  rw [e] at st
  have lw : low l (n + 1) f = low l n (if ltB (l.getD (l.length - (n + 1)) (0, 0)) (l.getD f (0, 0)) = true then l.length - (n + 1) else f) := by
   conv => lhs; unfold low
   congr 1
   by_cases q : ltB (l.getD (l.length - (n + 1)) (0, 0)) (l.getD f (0, 0)) = true
   ·rw [if_pos q, if_pos ((yem _ _).mp q)]
   ·rw [if_neg q, if_neg fun z => q ((yem _ _).mpr z)]
  refine x1_1 (yfj h70 hz n (if ltB (l.getD (l.length - (n + 1)) (0, 0)) (l.getD f (0, 0)) = true then l.length - (n + 1) else f) (some (.sh (.int ((l.length - (n + 1) : Nat) : Int)))) (by omega) (by split <;> omega)) fun c' k => ?_
  refine ⟨c', ?_⟩
  rw [zkb, zba, lw, show l.length - (n + 1) + 1 = l.length - n by omega]
  unfold forN
  rw [zjc]
  simp only [zpe, zwf, zwe, zbv, zbj]
  rw [st]
  exact k
noncomputable abbrev ymu : List (Nat × (List D -> Option W)) := [(70, zoj)]
noncomputable def mFF : List D -> Option W := run (tab ymu) zln 3
theorem ok_from_first (h70 : Γ 70 = zoj) : ∀ ds w, ds.length = 1 -> mFF ds = some w -> run Γ zln 3 ds = some w := fun ds w _ h => zna ymu (by
 intro p hp
 rcases zaw.mp hp with rfl; exact h70) (by decide) ds w h
theorem ff_run {LL L1 L2' : List D} {f M : Int} {Z : List D} {c' : Option B} (hM : (LL.length : Int) = M) (hr : (-4611686018427387904 <= M /\ M < 4611686018427387904) = True) (rg : zld 0 M.toNat = Z)
  (k : forN (zle (.name 2)) (exs Γ zxj) Z [some (.sh (.lst LL)), some (.sh (.int 0)), none] = some (.nx [some (.sh (.lst LL)), some (.sh (.int f)), c'])) (c1 : cutD LL (some f) none = L1) (c2 : cutD LL none (some f) = L2') (ad : opW .add (.lst L1) (.lst L2') = some (.new (L1 ++ L2'))) :
  run Γ zln 3 [.lst LL] = some (.new (L1 ++ L2')) := by
 unfold zxj at k
 unfold zln
 walk_at "evh"
theorem ff_int {l : List (Rat × Rat)} (hz : SzL 64 l) (h1 : 1 <= l.length) (hl : l.length <= 1000) : mFF [.lst (l.map stD)] = some (.new ((rot l (low l l.length 0)).map stD)) := by
 unfold mFF
 generalize hΓ : tab ymu = Γ
 have h70 : Γ 70 = zoj := by rw [<- hΓ]; rfl
 refine x1_1 (yfj h70 hz l.length 0 none (zai _) h1) fun c' k => ?_
 rw [zeq, <- zix] at k
 have lt : ∀ (n f : Nat), n <= l.length -> f < l.length -> low l n f < l.length := by
  intro n
  induction n with
  | zero => intro f _ hf; exact hf
  | succ n ih =>
   intro f hn hf
   unfold low
   refine ih _ (by omega) ?_
   split <;> omega
 have fl := lt l.length 0 (zai _) h1
 rw [zxy]
 refine ff_run (M := (l.length : Int)) (by rw [zad]) (eq_true (by omega)) (by rw [zdt]; rfl) k (yfu (by rw [zad]; omega)) (cutTo (by rw [zad]; omega)) ?_
 show (if _ then some (W.new _) else none) = _
 rw [if_pos (by rw [zbh, zcz, zeb, zad]; omega)]
noncomputable abbrev zro : List (Nat × (List D -> Option W)) := [(71, mFF)]
noncomputable def zsc : List D -> Option W := run (tab zro) zpj 1
theorem ok_turned (h71 : Γ 71 = mFF) : ∀ ds w, ds.length = 1 -> zsc ds = some w -> run Γ zpj 1 ds = some w := fun ds w _ h => zna zro (by
 intro p hp
 rcases zaw.mp hp with rfl; exact h71) (by decide) ds w h
noncomputable abbrev yka : E := (.comp (.tup (.cons (.tup (.cons (.neg (.ix (.var 1) (.int 0))) (.cons (.ix (.var 1) (.int 1)) .nil))) (.cons (.tup (.cons (.neg (.ix (.var 2) (.int 0))) (.cons (.ix (.var 2) (.int 1)) .nil))) .nil))) (.tup [1, 2]) (.seqV 0) 3 [] .non)
theorem yau {φ : List D -> Option W} (h71 : Γ 71 = φ) {LL NN O : List D} (hcomp : ev Γ yka [some (.lst LL)] = some (.new NN)) (ff : φ [.lst NN] = some (.new O)) : run Γ zpj 1 [.lst LL] = some (.new O) := by
 show run Γ (.cons (.ret (.call 71 (.cons yka .nil))) .nil) 1 [.lst LL] = some (.new O)
 generalize yka = ce at *
 walk_at "evh"
theorem zxv {l : List (Rat × Rat)} (hl : l.length <= 1000) : ev Γ yka [some (.lst (l.map stD))] = some (.new ((l.map ngR).map stD)) := by
 rw [zcn]
 refine znu (g := stD) (h := fun q => stD (ngR q)) ?_ (by rw [zbh]; omega) rfl fun q hq => ?_
 ·generalize l.map stD = LL
  walk_at "evh"
 ·show _ = some (some (D.tup [D.tup [.int (-q.1.num), .int (q.1.den : Int)], D.tup [.int (-q.2.num), .int (q.2.den : Int)]]))
  generalize l.map stD = LL
  unfold stD fr
  walk_at "evh"
theorem ztj {l : List (Rat × Rat)} (hz : SzL 64 l) (h1 : 1 <= l.length) (hl : l.length <= 1000) : zsc [.lst (l.map stD)] = some (.new ((rot (l.map ngR) (low (l.map ngR) (l.map ngR).length 0)).map stD)) := by
 unfold zsc
 generalize hΓ : tab zro = Γ
 have h71 : Γ 71 = mFF := by rw [<- hΓ]; rfl
 have zn : SzL 64 (l.map ngR) := fun q hq => by
  refine x1_2 (zbd.mp hq) fun p hp e => ?_
  subst e
  exact ⟨(hz p hp).1.neg, (hz p hp).2.neg⟩
 exact yau h71 (zxv hl) (ff_int zn (by rw [zad]; exact h1) (by rw [zad]; exact hl))
end
open Sf
section
variable {Γ : Nat -> List D -> Option W}
noncomputable abbrev zub : List (Nat × (List D -> Option W)) := [(29, zlq), (2, zmd), (13, zlc)]
noncomputable def yej : List D -> Option W := run (tab zub) zlb 6
theorem ok_law_push_k16 (h29 : Γ 29 = zlq) (h2 : Γ 2 = zmd) (h13 : Γ 13 = zlc) : ∀ ds w, ds.length = 2 -> yej ds = some w -> run Γ zlb 6 ds = some w := fun ds w _ h => zna zub (by
 intro p hp
 simp only [zub, zan, zer, or_false] at hp
 rcases hp with rfl | rfl | rfl <;> assumption) (by decide) ds w h
theorem yig {φ χ ψ : List D -> Option W} (h29 : Γ 29 = φ) (h2 : Γ 2 = χ) (h13 : Γ 13 = ψ) {NS : List D} {k r c v : Int} {x y z : D} (hr : φ [.lst NS, .int k] = some (.val (.int r))) (hc : χ [.lst NS, .int k] = some (.val (.int c)))
  (a1 : L2.atI [D.int 1, D.int (1 + c % 1000000000)] (r % 2) = some (.int v)) (r1 : ψ [.int (r % 41 - 20), .int (1 + r / 41 % 9)] = some (.val x)) (r2 : ψ [.int (c % 2000000000000000000000000000000 - 1000000000000000000000000000000), .int v] = some (.val y)) (lx : lf x = true) (ly : lf y = true)
  (a2 : L2.atI [D.tup [x, y], D.tup [y, x], D.tup [x, x]] (r / 369 % 3) = some z) : run Γ zlb 6 [.lst NS, .int k] = some (.val z) := by
 have m1 : zkz 2 1000000000000000000000000000000 = true := zkr (by decide) (by decide) (by decide) (by decide)
 unfold zlb
 walk_at "evh"
theorem d200 {a : Int} (h0 : -1000000000000000000000000000001 < a) (h1 : a < 1000000000000000000000000000001) : a.natAbs < 2 ^ 200 := by
 have : (1000000000000000000000000000001 : Nat) < 2 ^ 200 := by decide +kernel
 omega
theorem yih (ns : List Int) (k : Nat) (hk : k <= 100) : ∃ p, yej [.lst (ns.map D.int), .int (k : Int)] = some (.val (stD p)) /\ Sz 200 p.1 /\ Sz 200 p.2 := by
 unfold yej
 generalize hΓ : tab zub = Γ
 have h29 : Γ 29 = zlq := by rw [<- hΓ]; rfl
 have h2 : Γ 2 = zmd := by rw [<- hΓ]; rfl
 have h13 : Γ 13 = zlc := by rw [<- hΓ]; rfl
 refine x1_3 (znc ns k (by omega)) fun r hr _ _ => ?_
 refine x1_1 (zod (ns := ns) (k := k)) fun c hc => ?_
 refine x1_2 (zyt (a := D.int 1) (b := D.int (1 + c % 1000000000)) (i := r % 2) (by omega) (by omega)) fun v g1 g1' => ?_
 obtain ⟨s, hs, s0, s1⟩ : ∃ x : Int, v = .int x /\ 1 <= x /\ x <= 1000000000 := by
  clear hr hc g1 hΓ
  rcases g1' with e | e
  ·exact ⟨_, e, by decide, by decide⟩
  ·exact ⟨_, e, by omega, by omega⟩
 subst hs
 clear g1'
 have b0 : 1 + r / 41 % 9 ≠ 0 := by omega
 have b1 : (1 + r / 41 % 9).natAbs < 2 ^ 200 := d200 (by omega) (by omega)
 have b2 : s.natAbs < 2 ^ 200 := d200 (by omega) (by omega)
 have t1 : (r % 41 - 20).natAbs < 2 ^ 200 := d200 (by omega) (by omega)
 have t2 : (c % 2000000000000000000000000000000 - 1000000000000000000000000000000).natAbs < 2 ^ 200 := d200 (by omega) (by omega)
 have up : ∀ {a : Int}, a.natAbs < 2 ^ 200 -> a.natAbs < 2 ^ 9000 := fun h => zaq h (zdg (by decide) (by decide))
 have r1 := znj (t := r % 41 - 20) b0 (up b1)
 have r2 := znj (t := c % 2000000000000000000000000000000 - 1000000000000000000000000000000) (b := s) (by omega) (up b2)
 have z1 : Sz 200 (Rat.divInt (r % 41 - 20) (1 + r / 41 % 9)) := zvu b0 t1 b1
 have z2 : Sz 200 (Rat.divInt (c % 2000000000000000000000000000000 - 1000000000000000000000000000000) s) := zvu (by omega) t2 b2
 generalize Rat.divInt (r % 41 - 20) (1 + r / 41 % 9) = x at *
 generalize Rat.divInt (c % 2000000000000000000000000000000 - 1000000000000000000000000000000) s = y at *
 refine x1_2 (ygp (a := D.tup [fr x, fr y]) (b := D.tup [fr y, fr x]) (c := D.tup [fr x, fr x]) (i := r / 369 % 3) (by omega) (by omega)) fun z g2 g2' => ?_
 have rn := yig h29 h2 h13 hr hc g1 r1 r2 rfl rfl g2
 rcases g2' with e | e | e
 ·exact ⟨(x, y), by rw [rn, e]; rfl, z1, z2⟩
 ·exact ⟨(y, x), by rw [rn, e]; rfl, z2, z1⟩
 ·exact ⟨(x, x), by rw [rn, e]; rfl, z1, z1⟩
theorem zqd {α : Type} {f : D -> Option (Option D)} {g h : α -> D} {p : α -> Bool} : ∀ {l : List α}, (∀ x ∈ l, f (g x) = some (if p x = true then some (h x) else none)) -> znp f (l.map g) = some ((l.filter p).map h)
 | [], _ => rfl
 | x :: l, hs => by
  rw [zba]
  unfold znp
  rw [hs x (.head _), zqd fun y hy => hs y (.tail _ hy)]
  by_cases q : p x = true
  ·rw [if_pos q, List.filter_cons_of_pos q]; rfl
  ·rw [if_neg q, List.filter_cons_of_neg q]
theorem ypz {α : Type} {elt : E} {t : Tg} {it : It'} {nt : Nat} {fr : List Nat} {c : EO} {ρ : Rho} {l : List α} {g h : α -> D} {p : α -> Bool} (hI : evW Γ it ρ = some (l.map g)) (hz : l.length <= PySem.sizeLine) (ht : tgOk nt t = true) (hs : ∀ x ∈ l, yda Γ elt t nt fr c ρ (g x) = some (if p x = true then some (h x) else none)) :
  ev Γ (.comp elt t it nt fr c) ρ = some (.new ((l.filter p).map h)) := by
 rw [yfm, hI, zbj, if_pos ⟨by rw [zad]; exact hz, ht⟩, zqd hs]
 rfl
theorem st_ne (a b : Rat × Rat) : cmpD .ne (stD a) (stD b) = some (decide (a ≠ b)) := by
 show (eqO (stD a) (stD b)).map not = _
 have d : ∀ z : Rat × Rat, dOkL 49 [fr z.1, fr z.2] = true := fun _ => rfl
 have e : eqO (stD a) (stD b) = some (decide (a = b)) := by
  show (if (dOkL 49 [fr a.1, fr a.2] && dOkL 49 [fr b.1, fr b.2]) = true then some (eqL [fr a.1, fr a.2] [fr b.1, fr b.2]) else none) = _
  rw [d, d, zgr, if_pos rfl]
  congr 1
  have f : ∀ x y : Rat, eqD (fr x) (fr y) = decide (x = y) := fun x y => by
   have := ylx x y
   have k : cmpD .eq (fr x) (fr y) = some (eqD (fr x) (fr y)) := by
    show (if (dOkL 49 [.int x.num, .int (x.den : Int)] && dOkL 49 [.int y.num, .int (y.den : Int)]) = true then some (eqL [.int x.num, .int (x.den : Int)] [.int y.num, .int (y.den : Int)]) else none) = _
    rw [if_pos (show (dOkL 49 [D.int x.num, D.int (x.den : Int)] && dOkL 49 [D.int y.num, D.int (y.den : Int)]) = true from rfl)]
    simp only [fr, eqD]
   rw [k] at this
   exact zbk this
  simp only [eqL, zgq]
  rw [f, f, <- Bool.decide_and]
  exact decide_eq_decide.mpr ⟨fun hz => x0_2 hz fun h1 h2 => zjh h1 h2, fun h => by rw [h]; exact ⟨rfl, rfl⟩⟩
 rw [e]
 simp
noncomputable abbrev yam : E := (.comp (.tup (.cons (.tup (.cons (.bin .sub (.int 0) (.ix (.var 1) (.int 0))) (.cons (.ix (.var 1) (.int 1)) .nil))) (.cons (.tup (.cons (.bin .sub (.int 0) (.ix (.var 2) (.int 0))) (.cons (.ix (.var 2) (.int 1)) .nil))) .nil))) (.tup [1, 2]) (.seqV 0) 3 [] .non)
noncomputable abbrev ztu : E := (.comp (.var 1) (.name 1) (.seqV 1) 2 [2, 1] (.som (.and (.cmp .ne (.var 1) (.ix (.var 3) (.var 2))) (.not (.call 32 (.cons (.call 30 (.cons (.ix (.var 3) (.var 2)) .nil)) (.cons (.call 30 (.cons (.var 1) .nil)) .nil)))))))
theorem ybs {l : List (Rat × Rat)} (hl : l.length <= 1000) {a b c : Option D} : ev Γ yam [some (.lst (l.map stD)), a, b, c] = some (.new ((l.map ngR).map stD)) := by
 rw [zcn]
 refine znu (g := stD) (h := fun q => stD (ngR q)) ?_ (by rw [zbh]; omega) rfl fun q hq => ?_
 ·generalize l.map stD = LL
  walk_at "evh"
 ·show _ = some (some (D.tup [D.tup [.int (-q.1.num), .int (q.1.den : Int)], D.tup [.int (-q.2.num), .int (q.2.den : Int)]]))
  have z1 : 0 - q.1.num = -q.1.num := Int.zero_sub _
  have z2 : 0 - q.2.num = -q.2.num := Int.zero_sub _
  generalize l.map stD = LL
  unfold stD fr
  walk_at "evh"
noncomputable def lat (r s : Rat × Rat) : Bool := decide (s ≠ r) && !bef (hom r) (hom s)
theorem yjd {φ ψ : List D -> Option W} (h30 : Γ 30 = φ) (h32 : Γ 32 = ψ) {LL RR : List D} {k : Int} {s r u v : D} {b1 b2 : Bool} {c : Option D} (a1 : L2.atI RR k = some r) (c1 : cmpD .ne s r = some b1) (f1 : φ [r] = some (.val u)) (f2 : φ [s] = some (.val v)) (b : ψ [u, v] = some (.val (.bl b2))) :
  yda Γ (.var 1) (.name 1) 2 [2, 1] (.som (.and (.cmp .ne (.var 1) (.ix (.var 3) (.var 2))) (.not (.call 32 (.cons (.call 30 (.cons (.ix (.var 3) (.var 2)) .nil)) (.cons (.call 30 (.cons (.var 1) .nil)) .nil)))))) [some (.lst LL), some (.lst RR), some (.int k), c] s = some (if (b1 && !b2) = true then some s else none) := by
 cases b1 with
 | true =>
  cases b2 with
  | true => walk_at "evh"
  | false => walk_at "evh"
 | false => walk_at "evh"
theorem ybr (h30 : Γ 30 = zqn) (h32 : Γ 32 = zme) {R : List (Rat × Rat)} (hz : SzL 64 R) (hl : R.length <= 1000) {k : Nat} (hk : k < R.length) {LL : List D} {c : Option D} : ev Γ ztu [some (.lst LL), some (.lst (R.map stD)), some (.int (k : Int)), c] = some (.new ((R.filter (lat (R.getD k (0, 0)))).map stD)) := by
 refine ypz (g := stD) ?_ (by rw [zbh]; omega) rfl fun s hs => ?_
 ·generalize R.map stD = RR
  walk_at "evh"
 ·refine x0_2 (hz _ (zqz hk)) fun y1 y2 => ?_
  refine x0_2 (hz s hs) fun x1 x2 => ?_
  exact yjd h30 h32 (yqt hk) (st_ne _ _) (zuz y1 y2 (by decide)) (zuz x1 x2 (by decide)) (ztv (yev y1 y2) (yev x1 x2) (by decide))
theorem yox {R : List (Rat × Rat)} {k : Nat} (h : Fst R k) : R.filter (lat (R.getD k (0, 0))) = [] := by
 refine List.filter_eq_nil_iff.mpr fun s hs => ?_
 refine x1_1 (zct hs) fun j hj => ?_
 have e : R[k]? = some (R.getD k (0, 0)) := by rw [zaz, zae h.lt]; rfl
 unfold lat
 by_cases q : j = k
 ·subst q
  rw [hj] at e
  have e := zbk e
  rw [<- e]
  simp
 ·have := (zys (R.getD k (0, 0)) s).mpr (h.low j _ _ q e hj)
  rw [this]
  simp
theorem lat_ne {R : List (Rat × Rat)} {k j : Nat} (h : Fst R k) (hj : j < R.length) (hjk : j ≠ k) : R.filter (lat (R.getD j (0, 0))) ≠ [] := by
 have e : R[k]? = some (R.getD k (0, 0)) := by rw [zaz, zae h.lt]; rfl
 have e2 : R[j]? = some (R.getD j (0, 0)) := by rw [zaz, zae hj]; rfl
 have lt := h.low j _ _ hjk e e2
 refine List.ne_nil_of_mem (a := R.getD k (0, 0)) (zfx.mpr ⟨zqz h.lt, ?_⟩)
 unfold lat
 have n1 : R.getD k (0, 0) ≠ R.getD j (0, 0) := fun z => by rw [z] at lt; exact zyj _ lt
 have n2 : bef (hom (R.getD j (0, 0))) (hom (R.getD k (0, 0))) = false := zju.mpr fun z => zyj _ (zsg lt ((zys _ _).mp z))
 rw [decide_eq_true n1, n2]
 rfl
noncomputable abbrev zmw : Ss := (.cons (.asg 3 ztu) (.cons (.iff (.cmp .eq (.var 3) (.lst .nil)) (.cons (.ret (.bin .add (.sl (.var 1) (.som (.var 2)) .non) (.sl (.var 1) .non (.som (.var 2))))) .nil) .nil) .nil))
theorem ypb {LL RR Z : List D} {k : Int} {c : Option B} (hcomp : ev Γ ztu [some (.lst LL), some (.lst RR), some (.int k), c.map B.d] = some (.new Z)) (lz : lfL Z = true) (cz : cmpD .eq (.lst Z) (.lst []) = some false) : exs Γ zmw [some (.sh (.lst LL)), some (.ow RR), some (.sh (.int k)), c] = some (.nx [some (.sh (.lst LL)), some (.ow RR), some (.sh (.int k)), some (.ow Z)]) := by
 unfold zmw
 generalize ztu = ce at *
 walk_at "evh"
theorem yjm {LL RR L1 L2' : List D} {k : Int} {c : Option B} (hcomp : ev Γ ztu [some (.lst LL), some (.lst RR), some (.int k), c.map B.d] = some (.new [])) (c1 : cutD RR (some k) none = L1) (c2 : cutD RR none (some k) = L2') (ad : opW .add (.lst L1) (.lst L2') = some (.new (L1 ++ L2'))) :
  exs Γ zmw [some (.sh (.lst LL)), some (.ow RR), some (.sh (.int k)), c] = some (.rt (.new (L1 ++ L2'))) := by
 have cz : cmpD .eq (.lst []) (.lst []) = some true := rfl
 have lz : lfL [] = true := rfl
 unfold zmw
 generalize ztu = ce at *
 walk_at "evh"
theorem ybl {l : List (Rat × Rat)} (h : l ≠ []) : cmpD .eq (.lst (l.map stD)) (.lst []) = some false := by
 have d := yft l
 cases l with
 | nil => exact absurd rfl h
 | cons x l =>
  show (if (dOkL 49 ((x :: l).map stD) && dOkL 49 []) = true then some (eqL ((x :: l).map stD) []) else none) = _
  rw [d, if_pos (show (true && dOkL 49 []) = true from rfl)]
  rfl
theorem zxd (h30 : Γ 30 = zqn) (h32 : Γ 32 = zme) {R : List (Rat × Rat)} (hz : SzL 64 R) (hl : R.length <= 1000) {k : Nat} (F : Fst R k) {LL : List D} : ∀ (m i : Nat) (b c : Option B), i + m = R.length -> i <= k ->
  forN (zle (.name 2)) (exs Γ zmw) ((List.range' i m).map fun (i : Nat) => D.int (0 + (i : Int))) [some (.sh (.lst LL)), some (.ow (R.map stD)), b, c] = some (.rt (.new ((rot R k).map stD)))
 | 0, i, b, c, h, hi => by have := F.lt; omega
 | m + 1, i, b, c, h, hi => by
  have hil : i < R.length := by omega
  have hc := ybr h30 h32 hz hl hil (LL := LL) (c := c.map B.d)
  rw [zkb, zba]
  unfold forN
  rw [zjc]
  simp only [zpe, zwf, zwe, zbv, zbj]
  by_cases e : i = k
  ·subst e
   rw [yox F] at hc
   rw [yjm hc (yfu (by rw [zad]; omega)) (cutTo (by rw [zad]; omega)) (by
    show (if _ then some (W.new _) else none) = _
    rw [if_pos (by rw [zbh, zcz, zeb, zad]; omega)]), zxy]
   rfl
  ·rw [ypb hc (zon _) (ybl (lat_ne F hil e))]
   exact zxd h30 h32 hz hl F m (i + 1) _ _ (by omega) (by omega)
noncomputable abbrev zuc : List (Nat × (List D -> Option W)) := [(32, zme), (30, zqn)]
noncomputable def yek : List D -> Option W := run (tab zuc) zlg 4
theorem ok_law_half_turn (h32 : Γ 32 = zme) (h30 : Γ 30 = zqn) : ∀ ds w, ds.length = 1 -> yek ds = some w -> run Γ zlg 4 ds = some w := fun ds w _ h => zna zuc (by
 intro p hp
 simp only [zuc, zan, zer, or_false] at hp
 rcases hp with rfl | rfl <;> assumption) (by decide) ds w h
theorem yjk {LL RR Z O : List D} {M : Int} (hcomp : ev Γ yam [some (.lst LL), none, none, none] = some (.new RR)) (lr : lfL RR = true) (hM : (RR.length : Int) = M) (hr : (-4611686018427387904 <= M /\ M < 4611686018427387904) = True) (rg : zld 0 M.toNat = Z)
  (k : forN (zle (.name 2)) (exs Γ zmw) Z [some (.sh (.lst LL)), some (.ow RR), none, none] = some (.rt (.new O))) : run Γ zlg 4 [.lst LL] = some (.new O) := by
 show run Γ (.cons (.asg 1 yam) (.cons (.frr (.name 2) (.range1 (.bi .len (.cons (.var 1) .nil))) zmw) (.cons (.ret (.lst .nil)) .nil))) 4 [.lst LL] = _
 generalize yam = ce at *
 generalize zmw = bh at *
 walk_at "evh"
theorem yjl {l : List (Rat × Rat)} (hz : SzL 64 (l.map ngR)) (hl : l.length <= 1000) {k : Nat} (F : Fst (l.map ngR) k) : yek [.lst (l.map stD)] = some (.new ((rot (l.map ngR) k).map stD)) := by
 unfold yek
 generalize hΓ : tab zuc = Γ
 have h32 : Γ 32 = zme := by rw [<- hΓ]; rfl
 have h30 : Γ 30 = zqn := by rw [<- hΓ]; rfl
 have lp := zxd h30 h32 hz (by rw [zad]; exact hl) F (LL := l.map stD) (l.map ngR).length 0 none none (zff _) (zbr _)
 rw [<- zix] at lp
 refine yjk (M := ((l.map ngR).length : Int)) (ybs hl) (zon _) (by rw [zad]) (eq_true (by rw [zad]; omega)) (by rw [zdt]; rfl) lp
theorem yng {b : Ss} {n : Nat} {l ds : List D} : runO Γ b n (.lst l :: ds) = outO (exs Γ b (some (.ow l) :: (ds.map (fun d => some (.sh d)) ++ List.replicate (n - (ds.length + 1)) none))) := by
 show (exs Γ b (some (.ow l) :: (ds.map (fun d => some (.sh d)) ++ List.replicate (n - (ds.length + 1)) none))).bind _ = _
 cases exs Γ b (some (.ow l) :: (ds.map (fun d => some (.sh d)) ++ List.replicate (n - (ds.length + 1)) none)) with
 | none => rfl
 | some o => cases o <;> rfl
noncomputable abbrev zpo : List (Nat × (List D -> Option W)) := [(33, znk)]
noncomputable def zni : List D -> Option W := runO (tab zpo) zkx 4
theorem okr_of {b : Ss} {n : Nat} (T : List (Nat × (List D -> Option W))) (hT : ∀ p ∈ T, Γ p.1 = p.2) (hb : noTrys b = true) (ds : List D) (w : W) (h : runO (tab T) b n ds = some w) : runO Γ b n ds = some w := by
 cases ds with
 | nil => cases h
 | cons d ds =>
  cases d <;> first | (cases h; done) | skip
  exact zkh (fun o => exs_le (ycy T hT) b _ o hb) (fun _ _ z => z) h
theorem okr_law_right_k16 (h33 : Γ 33 = znk) : ∀ ds w, ds.length = 4 -> zni ds = some w -> runO Γ zkx 4 ds = some w := fun ds w _ h => okr_of zpo (by
 intro p hp
 rcases zaw.mp hp with rfl; exact h33) (by decide) ds w h
theorem ydl {φ : List D -> Option W} (h33 : Γ 33 = φ) {F L : List D} (i1 : φ [.lst F] = some (.val (.bl true))) (e1 : cmpD .ne (.lst F) (.lst F) = some false) (e2 : cmpD .ne (.lst L) (.lst L) = some false) (e3 : cmpD .eq (.lst L) (.lst L) = some true) (sz : (F.length < PySem.sizeLine) = True) :
  runO Γ zkx 4 [.lst F, .lst F, .lst L, .lst L] = some (.val (.bl true)) := by
 rw [yng]
 unfold zkx
 walk_at "evh"
end
open Sf
noncomputable abbrev cmp6 : E := (.comp (.tup (.cons (.call 73 (.cons (.var 1) (.cons (.ix (.var 3) (.int 0)) .nil))) (.cons (.call 73 (.cons (.var 2) (.cons (.ix (.var 3) (.int 1)) .nil))) .nil))) (.tup [1, 2]) (.seqV 1) 3 [2] .non)
noncomputable abbrev cmp7 : E := (.comp (.tup (.cons (.call 74 (.cons (.var 1) (.cons (.var 3) .nil))) (.cons (.call 74 (.cons (.var 2) (.cons (.var 3) .nil))) .nil))) (.tup [1, 2]) (.seqV 1) 3 [4] .non)
noncomputable abbrev ydn : Ss := (.cons (.asg 5 (.lcp (.var 1))) (.cons (.asg 6 cmp6) (.cons (.asg 7 cmp7) (.cons (.iff (.not (.callO 1035 (.call 66 (.cons (.var 5) (.cons (.var 2) .nil))) (.cons (.var 6) (.cons (.var 1) (.cons (.var 5) .nil))))) (.cons (.ret (.bl false)) .nil) .nil) (.cons (.iff (.not (.callO 1035 (.call 68 (.cons (.var 5) (.cons (.var 4) .nil))) (.cons (.var 7) (.cons (.var 1) (.cons (.var 5) .nil))))) (.cons (.ret (.bl false)) .nil) .nil) (.cons (.iff (.not (.callO 1035 (.call 69 (.cons (.var 5) .nil)) (.cons (.call 75 (.cons (.var 1) .nil)) (.cons (.var 1) (.cons (.var 5) .nil))))) (.cons (.ret (.bl false)) .nil) .nil) (.cons (.ret (.and (.cmp .eq (.call 69 (.cons (.call 69 (.cons (.var 1) .nil)) .nil)) (.var 1)) (.cmp .eq (.call 68 (.cons (.call 68 (.cons (.var 1) (.cons (.var 4) .nil))) (.cons (.tup (.cons (.ix (.var 4) (.int 1)) (.cons (.ix (.var 4) (.int 0)) .nil))) .nil))) (.var 1)))) .nil)))))))
section
variable {Γ : Nat -> List D -> Option W}
theorem yic {O Pu Si Tu Ha : List D -> Option W} (h1035 : Γ 1035 = O) (h66 : Γ 66 = Pu) (h68 : Γ 68 = Si) (h69 : Γ 69 = Tu) (h75 : Γ 75 = Ha) {NS L PL GL TL : List D} {P F : D} {n d m : Int}
  (e6 : ev Γ cmp6 [some (.lst NS), some (.lst L), some P, some (.int n), some F, some (.lst L), none, none] = some (.new PL)) (e7 : ev Γ cmp7 [some (.lst NS), some (.lst L), some P, some (.int n), some F, some (.lst L), some (.lst PL), none] = some (.new GL))
  (p1 : Pu [.lst L, P] = some (.new PL)) (s1 : Si [.lst L, F] = some (.new GL)) (t1 : Tu [.lst L] = some (.new TL)) (ha : Ha [.lst L] = some (.new TL))
  (r1 : ownW O (.new PL) [.lst PL, .lst L, .lst L] = some (.val (.bl true))) (r2 : ownW O (.new GL) [.lst GL, .lst L, .lst L] = some (.val (.bl true))) (r3 : ownW O (.new TL) [.lst TL, .lst L, .lst L] = some (.val (.bl true)))
  (t2 : Tu [.lst TL] = some (.new L)) (i1 : ixD F (.int 1) = some (.int d)) (i0 : ixD F (.int 0) = some (.int m)) (s2 : Si [.lst GL, .tup [.int d, .int m]] = some (.new L)) (eq : cmpD .eq (.lst L) (.lst L) = some true)
  (lL : lfL L = true) (lP : lfL PL = true) (lG : lfL GL = true) :
  exs Γ ydn [some (.sh (.lst NS)), some (.ow L), some (.sh P), some (.sh (.int n)), some (.sh F), none, none, none] = some (.rt (.val (.bl true))) := by
 have co : ∀ f a l ρ, ev Γ (.callO f a l) ρ = (ev Γ a ρ).bind fun w => (evs Γ l ρ).bind fun ds => ownW (Γ f) w ds := fun _ _ _ _ => yjq
 unfold ydn
 generalize cmp6 = ce6 at *
 generalize cmp7 = ce7 at *
 walk_at "evh"
noncomputable abbrev ylu (rs : Ss) : Ss := (.cons (.asg 1 (.call 47 (.cons (.var 0) (.cons (.int 1) (.cons (.int 12) .nil))))) (.cons (.asg 2 (.call 72 (.cons (.var 0) (.cons (.int 50) .nil)))) (.cons (.asg 3 (.call 29 (.cons (.var 0) (.cons (.int 51) .nil)))) (.cons (.asg 4 (.call 13 (.cons (.bin .add (.int 1) (.bin .mod (.var 3) (.int 20))) (.cons (.bin .add (.int 1) (.bin .mod (.bin .fdiv (.var 3) (.int 20)) (.int 20))) .nil)))) (.cons (.iff (.cmp .eq (.bin .mod (.bin .fdiv (.var 3) (.int 400)) (.int 3)) (.int 1)) (.cons (.asg 4 (.call 13 (.cons (.bin .add (.int 1) (.bin .mod (.call 2 (.cons (.var 0) (.cons (.int 5) .nil))) (.bin .pow (.int 10) (.int 30)))) (.cons (.bin .add (.int 1) (.bin .mod (.call 2 (.cons (.var 0) (.cons (.int 6) .nil))) (.bin .pow (.int 10) (.int 9)))) .nil)))) .nil) .nil) rs)))))
theorem yow {A B C R Ce : List D -> Option W} (h47 : Γ 47 = A) (h72 : Γ 72 = B) (h29 : Γ 29 = C) (h13 : Γ 13 = R) (h2 : Γ 2 = Ce) {NS L : List D} {P F0 F : D} {n c5 c6 : Int} {rs : Ss} (s : A [.lst NS, .int 1, .int 12] = some (.new L)) (p : B [.lst NS, .int 50] = some (.val P)) (mx : C [.lst NS, .int 51] = some (.val (.int n)))
  (f0 : R [.int (1 + n % 20), .int (1 + n / 20 % 20)] = some (.val F0)) (q5 : Ce [.lst NS, .int 5] = some (.val (.int c5))) (q6 : Ce [.lst NS, .int 6] = some (.val (.int c6))) (f1 : (n / 400 % 3 = 1) = False /\ F = F0 ∨ (n / 400 % 3 = 1) = True /\ R [.int (1 + c5 % 1000000000000000000000000000000), .int (1 + c6 % 1000000000)] = some (.val F))
  (lL : lfL L = true) (lP : lf P = true) (l0 : lf F0 = true) (lF : lf F = true) (k : exs Γ rs [some (.sh (.lst NS)), some (.ow L), some (.sh P), some (.sh (.int n)), some (.sh F), none, none, none] = some (.rt (.val (.bl true)))) : run Γ (ylu rs) 8 [.lst NS] = some (.val (.bl true)) := by
 unfold ylu
 rcases f1 with ⟨c, e⟩ | ⟨c, f⟩
 ·subst e
  walk_at "evh"
 ·walk_at "evh"
end
open Sf
theorem inv_fr {f : Rat} (h : 0 < f.num) : ∃ g : Rat, fr g = .tup [.int (f.den : Int), .int f.num] /\ f * g = 1 /\ (∀ n, Sz n f -> Sz n g) /\ 0 < g.num := by
 have e : ((f.num.toNat : Nat) : Int) = f.num := by omega
 have na : f.num.natAbs = f.num.toNat := by omega
 refine ⟨⟨(f.den : Int), f.num.toNat, by omega, by rw [zbp, <- na]; exact f.reduced.symm⟩, ?_, ?_, fun n hs => ⟨?_, ?_⟩, ?_⟩
 ·show D.tup [.int (f.den : Int), .int ((f.num.toNat : Nat) : Int)] = _
  rw [e]
 ·rw [<- mul_r]
  show Rat.divInt (f.num * (f.den : Int)) ((f.den : Int) * ((f.num.toNat : Nat) : Int)) = 1
  rw [e, zfi (f.den : Int)]
  exact Rat.divInt_self' (zdr (by omega) (by have := zli f; omega))
 ·show ((f.den : Int)).natAbs < _
  exact zkl hs
 ·show f.num.toNat < _
  rw [<- na]; exact hs.t
 ·exact zli f
theorem ykz {g f : Rat} (h : f * g = 1) (q : Rat) : q * f * g = q := by
 rw [Rat.mul_assoc, h, Rat.mul_one]
theorem ngng (q : Rat × Rat) : ngR (ngR q) = q := by
 unfold ngR
 exact zjh (Rat.neg_neg _) (Rat.neg_neg _)
theorem Fst.rot {l : List (Rat × Rat)} {k j : Nat} (hk : k < l.length) (h : Fst (rot l k) j) : Fst l ((j + k) % l.length) := by
 have hj : j < l.length := by have := h.lt; rw [zlp] at this; exact this
 have hm : (j + k) % l.length < l.length := zel _ (by omega)
 refine ⟨hm, fun i p q hi h0 h1 => ?_⟩
 have il := (zal.mp h1).1
 refine h.low ((i + (l.length - k)) % l.length) p q (fun e => hi ?_) (by rw [zng hk hj]; exact h0) ?_
 ·rw [<- e, Nat.mod_add_mod, show i + (l.length - k) + k = i + l.length by omega, zfp, zbn il]
 ·rw [zng hk (zel _ (by omega)), Nat.mod_add_mod, show i + (l.length - k) + k = i + l.length by omega, zfp, zbn il]
  exact h1
theorem ycl {l : List (Rat × Rat)} (hS : IsShp l) {k j : Nat} (hk : k < l.length) (h : Fst (rot l k) j) : rot (rot l k) j = l := by
 have hj : j < l.length := by have := h.lt; rw [zlp] at this; exact this
 rw [ynh hk hj, (Fst.rot hk h).uniq hS.fst, rot_0]
theorem nd_ng {l : List (Rat × Rat)} (nd : l.Nodup) : (l.map ngR).Nodup := by
 refine zhs.mpr (zcv.mpr (List.Pairwise.imp (fun {a b} h e => h ?_) (zhs.mp nd)))
 rw [<- ngng a, e, ngng]
theorem zxw {n m : Nat} {l : List (Rat × Rat)} {f : Rat × Rat -> Rat × Rat} (h : ∀ q ∈ l, Sz m (f q).1 /\ Sz m (f q).2) : SzL m (l.map f) := fun q hq => by
 refine x1_2 (zbd.mp hq) fun p hp e => ?_
 rw [<- e]; exact h p hp
section
variable {Γ : Nat -> List D -> Option W}
theorem yfw (h73 : Γ 73 = zyh) {l : List (Rat × Rat)} (hl : l.length <= 1000) (hz : SzL 64 l) {p : Rat × Rat} (hp : Sz 200 p.1 /\ Sz 200 p.2) {a b c d e f : Option D} : ev Γ cmp6 [a, some (.lst (l.map stD)), some (stD p), b, c, d, e, f] = some (.new ((l.map (pshR p)).map stD)) := by
 rw [zcn]
 refine znu (g := stD) (h := fun q => stD (pshR p q)) ?_ (by rw [zbh]; omega) rfl fun q hq => ?_
 ·generalize l.map stD = LL
  generalize stD p = P
  clear hz hp
  walk_at "evh"
 ·have a1 := zzx ((hz q hq).1.mono (show 64 <= 200 by decide)) hp.1
  have a2 := zzx ((hz q hq).2.mono (show 64 <= 200 by decide)) hp.2
  show _ = some (some (D.tup [fr (q.1 + p.1), fr (q.2 + p.2)]))
  have q2 : stD q = .tup [fr q.1, fr q.2] := rfl
  have q3 : stD p = .tup [fr p.1, fr p.2] := rfl
  rw [q2, q3]
  generalize l.map stD = LL
  generalize fr (q.1 + p.1) = X at *
  generalize fr (q.2 + p.2) = Y at *
  generalize fr q.1 = Q1 at *
  generalize fr q.2 = Q2 at *
  generalize fr p.1 = P1 at *
  generalize fr p.2 = P2 at *
  generalize zyh = φ at *
  clear hz hp hq q2 q3
  walk_at "evh"
theorem yfv (h74 : Γ 74 = zyg) {l : List (Rat × Rat)} (hl : l.length <= 1000) (hz : SzL 64 l) {x : Rat} (hx : Sz 200 x) {a b c d e f : Option D} : ev Γ cmp7 [a, some (.lst (l.map stD)), b, c, some (fr x), d, e, f] = some (.new ((l.map (szR x)).map stD)) := by
 rw [zcn]
 refine znu (g := stD) (h := fun q => stD (szR x q)) ?_ (by rw [zbh]; omega) rfl fun q hq => ?_
 ·generalize l.map stD = LL
  generalize fr x = X
  clear hz hx
  walk_at "evh"
 ·have a1 := zzv ((hz q hq).1.mono (show 64 <= 200 by decide)) hx
  have a2 := zzv ((hz q hq).2.mono (show 64 <= 200 by decide)) hx
  show _ = some (some (D.tup [fr (q.1 * x), fr (q.2 * x)]))
  have q2 : stD q = .tup [fr q.1, fr q.2] := rfl
  rw [q2]
  generalize l.map stD = LL
  generalize fr (q.1 * x) = X at *
  generalize fr (q.2 * x) = Y at *
  generalize fr q.1 = Q1 at *
  generalize fr q.2 = Q2 at *
  generalize fr x = F at *
  generalize zyg = φ at *
  clear hz hx hq q2
  walk_at "evh"
theorem yhp (l : List (Rat × Rat)) : cmpD .eq (.lst (l.map stD)) (.lst (l.map stD)) = some true /\ cmpD .ne (.lst (l.map stD)) (.lst (l.map stD)) = some false := by
 have d := yft l
 have e : eqO (.lst (l.map stD)) (.lst (l.map stD)) = some true := by
  show (if (dOkL 49 (l.map stD) && dOkL 49 (l.map stD)) = true then some (eqL (l.map stD) (l.map stD)) else none) = _
  rw [d, if_pos (show (true && true) = true from rfl), eqL_self 49 _ d]
 exact ⟨e, by show (eqO _ _).map not = _; rw [e]; rfl⟩
theorem zrw {F l : List (Rat × Rat)} (hS : IsShp F) (hz : SzL 300 F) (hF : F.length <= 1000) : ownW zni (.new (F.map stD)) [.lst (F.map stD), .lst (l.map stD), .lst (l.map stD)] = some (.val (.bl true)) := by
 have r : zni [.lst (F.map stD), .lst (F.map stD), .lst (l.map stD), .lst (l.map stD)] = some (.val (.bl true)) := by
  unfold zni
  generalize hΓ : tab zpo = Γ
  have h33 : Γ 33 = znk := by rw [<- hΓ]; rfl
  exact ydl h33 (zwz hS hz (by decide) hF) (yhp F).2 (yhp l).2 (yhp l).1 (eq_true (by rw [zad, zbh]; omega))
 show (zni [.lst (F.map stD), .lst (F.map stD), .lst (l.map stD), .lst (l.map stD)]).bind _ = _
 rw [r]
 rfl
theorem yfk {t b : Int} (ht : 1 <= t) (hb : 1 <= b) (t2 : t < 1000000000000000000000000000001) (b2 : b < 1000000000000000000000000000001) : zlc [.int t, .int b] = some (.val (fr (Rat.divInt t b))) /\ Sz 200 (Rat.divInt t b) /\ 0 < (Rat.divInt t b).num := by
 have nb : b ≠ 0 := by omega
 have z1 : t.natAbs < 2 ^ 200 := d200 (by omega) t2
 have z2 : b.natAbs < 2 ^ 200 := d200 (by omega) b2
 refine ⟨znj nb (zaq z2 (zdg (by decide) (by decide))), zvu nb z1 z2, ?_⟩
 have h := zzp (Rat.divInt t b)
 have e : (Rat.divInt t b) * (b : Rat) = (t : Rat) := by
  rw [zgz]
  exact zjo (fun z => nb (Rat.intCast_inj.mp z))
 refine cast_pos.mp ?_
 rw [h]
 have hb' : (0 : Rat) < (b : Rat) := cast_pos.mpr (by omega)
 have ht' : (0 : Rat) < (t : Rat) := cast_pos.mpr (by omega)
 have hx : 0 < Rat.divInt t b := by
  refine Rat.not_le.mp fun z => ?_
  have := zhb z (Rat.le_of_lt hb')
  rw [e, Rat.zero_mul] at this
  exact absurd ht' (Rat.not_lt.mpr this)
 exact zdl hx (cast_pos.mpr (zli _))
theorem law16 (h47 : Γ 47 = zww) (h72 : Γ 72 = yej) (h29 : Γ 29 = zlq) (h13 : Γ 13 = zlc) (h2 : Γ 2 = zmd) (h73 : Γ 73 = zyh) (h74 : Γ 74 = zyg) (h1035 : Γ 1035 = zni) (h66 : Γ 66 = zsd) (h68 : Γ 68 = zwv) (h69 : Γ 69 = zsc) (h75 : Γ 75 = yek) (ns : List Int) (hn : ns.length <= 63) : run Γ zne 8 [.lst (ns.map D.int)] = some (.val (.bl true)) := by
 refine x5_2 (yde ns 1 12 (by decide) (by decide) (by decide)) fun l ps b f sh S hS => ?_
 rw [show ((1 : Nat) : Int) = 1 from rfl, show ((12 : Nat) : Int) = 12 from rfl] at hS
 have hl := S.small (by decide)
 have hz := S.sz
 refine x0_2 (S.shp) fun shp nd => ?_
 refine x1_3 (yih ns 50 (by decide)) fun p hp p1 p2 => ?_
 rw [show ((50 : Nat) : Int) = 50 from rfl] at hp
 refine x1_3 (znc ns 51 (by decide)) fun n hn' _ _ => ?_
 rw [show ((51 : Nat) : Int) = 51 from rfl] at hn'
 refine x1_1 (zod (ns := ns) (k := 5)) fun c5 q5 => ?_
 refine x1_1 (zod (ns := ns) (k := 6)) fun c6 q6 => ?_
 rw [show ((5 : Nat) : Int) = 5 from rfl] at q5
 rw [show ((6 : Nat) : Int) = 6 from rfl] at q6
 refine x0_3 (yfk (t := 1 + n % 20) (b := 1 + n / 20 % 20) (by omega) (by omega) (by omega) (by omega)) fun f0 z0 g0 => ?_
 refine x0_3 (yfk (t := 1 + c5 % 1000000000000000000000000000000) (b := 1 + c6 % 1000000000) (by omega) (by omega) (by omega) (by omega)) fun f1 z1 g1 => ?_
 obtain ⟨x, hx, zx, gx⟩ : ∃ x : Rat, ((n / 400 % 3 = 1) = False /\ fr x = fr (Rat.divInt (1 + n % 20) (1 + n / 20 % 20)) ∨ (n / 400 % 3 = 1) = True /\ zlc [.int (1 + c5 % 1000000000000000000000000000000), .int (1 + c6 % 1000000000)] = some (.val (fr x))) /\ Sz 200 x /\ 0 < x.num := by
  by_cases c : n / 400 % 3 = 1
  ·exact ⟨_, .inr ⟨eq_true c, f1⟩, z1, g1⟩
  ·exact ⟨_, .inl ⟨eq_false c, rfl⟩, z0, g0⟩
 have hl2 : l.length <= 1000 := by omega
 have l1 : 1 <= l.length := by have := shp.three; omega
 have zn : SzL 64 (l.map ngR) := zxw (n := 0) fun q hq => ⟨(hz q hq).1.neg, (hz q hq).2.neg⟩
 have nl : (l.map ngR).length = l.length := zad ..
 have F1 := zzu (nd_ng nd) (l.map ngR).length 0 (zai _) (by rw [nl]; exact l1) (fun j hj _ => by rw [zeq] at hj; exact absurd hj (Nat.not_lt_zero _))
 have tu := ztj hz l1 hl2
 have hf := yjl zn hl2 F1
 generalize hk : low (l.map ngR) (l.map ngR).length 0 = k at *
 have kl : k < l.length := by have := F1.lt; rw [nl] at this; exact this
 have tS : IsShp (rot (l.map ngR) k) := IsShp.of_rot (by rw [nl]; exact shp.three) (ypw shp) F1
 have zt : SzL 64 (rot (l.map ngR) k) := fun q hq => zn q (rot_mem.mp hq)
 have tl : (rot (l.map ngR) k).length = l.length := by rw [zlp, nl]
 have tu2 := ztj zt (by rw [tl]; exact l1) (by rw [tl]; exact hl2)
 have back : (rot (l.map ngR) k).map ngR = rot l k := by
  rw [zxy, zcn]
  congr 1
  conv => rhs; rw [<- List.map_id l]
  exact zev fun q _ => ngng q
 rw [back] at tu2
 have nr : (rot l k).Nodup := by
  unfold rot
  exact (List.perm_append_comm.nodup_iff).mpr (by rw [zen]; exact nd)
 have F2 := zzu nr (rot l k).length 0 (zai _) (by rw [zlp]; exact l1) (fun j hj _ => by rw [zeq] at hj; exact absurd hj (Nat.not_lt_zero _))
 rw [ycl shp kl F2] at tu2
 have si := zwd hl2 (fun q hq => ⟨(hz q hq).1.mono (by decide), (hz q hq).2.mono (by decide)⟩) (zx.mono (by decide)) gx
 have zg : SzL 300 (l.map (szR x)) := zxw (n := 0) fun q hq => ⟨((hz q hq).1.mul zx).mono (by decide), ((hz q hq).2.mul zx).mono (by decide)⟩
 refine x1_4 (inv_fr gx) fun y ey xy zy gy => ?_
 have si2 := zwd (l := l.map (szR x)) (by rw [zad]; exact hl2) (fun q hq => ⟨(zg q hq).1.mono (by decide), (zg q hq).2.mono (by decide)⟩) ((zy 200 zx).mono (by decide)) gy
 have bk : ((l.map (szR x)).map fun q => (q.1 * y, q.2 * y)) = l := by
  rw [zcn]
  conv => rhs; rw [<- List.map_id l]
  exact zev fun q _ => zjh (ykz xy q.1) (ykz xy q.2)
 rw [bk, ey] at si2
 have pu := ybk hl2 hz ⟨p1, p2⟩
 have zp : SzL 300 (l.map (pshR p)) := zxw (n := 0) fun q hq => ⟨((hz q hq).1.add p1).mono (by decide), ((hz q hq).2.add p2).mono (by decide)⟩
 have px : 0 < x := by
  have := zdl (cast_pos.mpr gx) (show (0 : Rat) < 1 by decide)
  refine Rat.not_le.mp fun z => ?_
  have h := zzp x
  have d := cast_pos.mpr (zli x)
  have := zhb z (Rat.le_of_lt d)
  rw [<- h, Rat.zero_mul] at this
  exact absurd (cast_pos.mpr gx) (Rat.not_lt.mpr this)
 have zt3 : SzL 300 (rot (l.map ngR) k) := fun q hq => ⟨(zt q hq).1.mono (by decide), (zt q hq).2.mono (by decide)⟩
 have r1 := zrw (l := l) (shp.push p) zp (by rw [zad]; exact hl2)
 have r2 := zrw (l := l) (shp.size px) zg (by rw [zad]; exact hl2)
 have r3 := zrw (l := l) tS zt3 (by rw [tl]; exact hl2)
 have k1 := yic h1035 h66 h68 h69 h75 (NS := ns.map D.int) (n := n) (yfw h73 hl2 hz ⟨p1, p2⟩) (yfv h74 hl2 hz zx) pu si tu hf r1 r2 r3 tu2 (d := (x.den : Int)) (m := x.num) rfl rfl si2 (yhp l).1 (zon _) (zon _) (zon _)
 exact yow h47 h72 h29 h13 h2 (rs := ydn) hS hp hn' f0 q5 q6 hx (zon _) rfl rfl rfl k1
end
end DL
namespace LW
open DL
noncomputable def Γ : Nat → List D → Option W
 | 0 => zlr
 | 1 => zlc
 | 2 => zmd
 | 3 => zwu
 | 9 => zyf
 | 11 => zoy
 | 12 => zlr
 | 13 => zlc
 | 14 => zwx
 | 21 => zse
 | 28 => zqa
 | 29 => zlq
 | 30 => zqn
 | 31 => mWay
 | 32 => zme
 | 33 => znk
 | 34 => znr
 | 45 => zpt
 | 46 => zye
 | 47 => zww
 | 66 => zsd
 | 67 => zsf
 | 68 => zwv
 | 69 => zsc
 | 70 => zoj
 | 71 => mFF
 | 72 => yej
 | 73 => zyh
 | 74 => zyg
 | 75 => yek
 | 1035 => zni
 | _ => fun _ => none
theorem ok_law_turn_k13 : ∀ ds w, ds.length = 3 → Γ 45 ds = some w → run Γ zlj 4 ds = some w := by apply DL.ok_law_turn_k13 <;> rfl
theorem ok_law_ring_k13 : ∀ ds w, ds.length = 1 → Γ 46 ds = some w → run Γ zlk 5 ds = some w := by apply DL.ok_law_ring_k13 <;> rfl
theorem ok_law_block : ∀ ds w, ds.length = 2 → Γ 28 ds = some w → run Γ zly 4 ds = some w := by apply DL.ok_law_block <;> rfl
theorem ok_law_mixed : ∀ ds w, ds.length = 2 → Γ 29 ds = some w → run Γ zmr 4 ds = some w := by apply DL.ok_law_mixed <;> rfl
theorem ok_law_points_k14 : ∀ ds w, ds.length = 3 → Γ 34 ds = some w → run Γ zmg 10 ds = some w := by apply DL.ok_law_points_k14 <;> rfl
theorem ok_law_cell_at : ∀ ds w, ds.length = 2 → Γ 2 ds = some w → run Γ zml 2 ds = some w := by apply DL.ok_law_cell_at <;> rfl
theorem ok_law_divisor : ∀ ds w, ds.length = 2 → Γ 12 ds = some w → run Γ zmk 2 ds = some w := by apply DL.ok_law_divisor <;> rfl
theorem ok_law_lowest : ∀ ds w, ds.length = 2 → Γ 13 ds = some w → run Γ zmz 3 ds = some w := by apply DL.ok_law_lowest <;> rfl
theorem ok_law_shape_k13 : ∀ ds w, ds.length = 3 → Γ 47 ds = some w → run Γ zkw 8 ds = some w := by apply DL.ok_law_shape_k13 <;> rfl
theorem ok_law_push_k16 : ∀ ds w, ds.length = 2 → Γ 72 ds = some w → run Γ zlb 6 ds = some w := by apply DL.ok_law_push_k16 <;> rfl
theorem ok_law_added : ∀ ds w, ds.length = 2 → Γ 73 ds = some w → run Γ zms 2 ds = some w := by apply DL.ok_law_added <;> rfl
theorem ok_law_times_k16 : ∀ ds w, ds.length = 2 → Γ 74 ds = some w → run Γ zlf 2 ds = some w := by apply DL.ok_law_times_k16 <;> rfl
theorem ok_divisor : ∀ ds w, ds.length = 2 → Γ 0 ds = some w → run Γ zpk 5 ds = some w := by apply DL.ok_divisor <;> rfl
theorem ok_plus : ∀ ds w, ds.length = 2 → Γ 9 ds = some w → run Γ yap 5 ds = some w := by apply DL.ok_plus <;> rfl
theorem ok_added : ∀ ds w, ds.length = 2 → Γ 67 ds = some w → run Γ zst 2 ds = some w := by apply DL.ok_added <;> rfl
theorem ok_pushed : ∀ ds w, ds.length = 2 → Γ 66 ds = some w → run Γ zog 2 ds = some w := by apply DL.ok_pushed <;> rfl
theorem ok_ratio : ∀ ds w, ds.length = 2 → Γ 1 ds = some w → run Γ zvk 3 ds = some w := by apply DL.ok_ratio <;> rfl
theorem ok_times : ∀ ds w, ds.length = 2 → Γ 11 ds = some w → run Γ zvj 2 ds = some w := by apply DL.ok_times <;> rfl
theorem ok_sized : ∀ ds w, ds.length = 2 → Γ 68 ds = some w → run Γ zpy 2 ds = some w := by apply DL.ok_sized <;> rfl
theorem ok_below : ∀ ds w, ds.length = 2 → Γ 21 ds = some w → run Γ zvl 2 ds = some w := by apply DL.ok_below <;> rfl
theorem ok_ahead : ∀ ds w, ds.length = 2 → Γ 70 ds = some w → run Γ zss 2 ds = some w := by apply DL.ok_ahead <;> rfl
theorem ok_from_first : ∀ ds w, ds.length = 1 → Γ 71 ds = some w → run Γ zln 3 ds = some w := by apply DL.ok_from_first <;> rfl
theorem ok_turned : ∀ ds w, ds.length = 1 → Γ 69 ds = some w → run Γ zpj 1 ds = some w := by apply DL.ok_turned <;> rfl
theorem ok_law_before : ∀ ds w, ds.length = 2 → Γ 32 ds = some w → run Γ zmb 2 ds = some w := by apply DL.ok_law_before <;> rfl
theorem ok_law_flat_k11 : ∀ ds w, ds.length = 1 → Γ 30 ds = some w → run Γ zlm 3 ds = some w := by apply DL.ok_law_flat_k11 <;> rfl
theorem ok_law_half_turn : ∀ ds w, ds.length = 1 → Γ 75 ds = some w → run Γ zlg 4 ds = some w := by apply DL.ok_law_half_turn <;> rfl
theorem ok_law_whole : ∀ ds w, ds.length = 1 → Γ 3 ds = some w → run Γ znn 1 ds = some w := by apply DL.ok_law_whole <;> rfl
theorem ok_law_is_fraction : ∀ ds w, ds.length = 1 → Γ 14 ds = some w → run Γ zlh 1 ds = some w := by apply DL.ok_law_is_fraction <;> rfl
theorem ok_law_way_k11 : ∀ ds w, ds.length = 3 → Γ 31 ds = some w → run Γ zls 4 ds = some w := by apply DL.ok_law_way_k11 <;> rfl
theorem ok_law_is_shape : ∀ ds w, ds.length = 1 → Γ 33 ds = some w → run Γ zll 5 ds = some w := by apply DL.ok_law_is_shape <;> rfl
theorem okr_law_right_k16 : ∀ ds w, ds.length = 4 → Γ 1035 ds = some w → runO Γ zkx 4 ds = some w := by apply DL.okr_law_right_k16 <;> rfl
theorem yja : ∀ ns : List Int, ns.length ≤ 63 → run Γ zne 8 [.lst (ns.map D.int)] = some (.val (.bl true)) := by
 intro ns hn
 apply DL.law16 <;> first | rfl | exact hn
end LW
namespace LW
open PySem L2 DL
noncomputable def top (i : Nat) : Stmt := PySem.Challenge.pw_snugfit_k16_pushed_sized_turned.main.body.getD i (.Pass ⟨0, 0, 0, 0⟩)
theorem bnd1 {x : Str} {st : Stmt} {p0 : Str} (h : ∀ (kV doc pm : Value) (an : Option Addr) (cdv ct : Value) (a0 : Value), bindArgs (PySem.W.fnOf x x (zmp st) (zkj st) (zkg st) .none kV doc pm an cdv ct) ⟨[a0], []⟩ = pure ([p0].zip [a0])) : Bnd x st [p0] := fun kV doc pm an cdv ct us hl => by
 cases us with
 | nil => cases hl
 | cons a0 r0 =>
  cases r0 with
  | nil => exact h kV doc pm an cdv ct a0
  | cons _ _ => cases hl
theorem bnd2 {x : Str} {st : Stmt} {p0 p1 : Str} (h : ∀ (kV doc pm : Value) (an : Option Addr) (cdv ct : Value) (a0 a1 : Value), bindArgs (PySem.W.fnOf x x (zmp st) (zkj st) (zkg st) .none kV doc pm an cdv ct) ⟨[a0, a1], []⟩ = pure ([p0, p1].zip [a0, a1])) : Bnd x st [p0, p1] := fun kV doc pm an cdv ct us hl => by
 cases us with
 | nil => cases hl
 | cons a0 r0 =>
  cases r0 with
  | nil => cases hl
  | cons a1 r1 =>
   cases r1 with
   | nil => exact h kV doc pm an cdv ct a0 a1
   | cons _ _ => cases hl
theorem bnd3 {x : Str} {st : Stmt} {p0 p1 p2 : Str} (h : ∀ (kV doc pm : Value) (an : Option Addr) (cdv ct : Value) (a0 a1 a2 : Value), bindArgs (PySem.W.fnOf x x (zmp st) (zkj st) (zkg st) .none kV doc pm an cdv ct) ⟨[a0, a1, a2], []⟩ = pure ([p0, p1, p2].zip [a0, a1, a2])) : Bnd x st [p0, p1, p2] := fun kV doc pm an cdv ct us hl => by
 cases us with
 | nil => cases hl
 | cons a0 r0 =>
  cases r0 with
  | nil => cases hl
  | cons a1 r1 =>
   cases r1 with
   | nil => cases hl
   | cons a2 r2 =>
    cases r2 with
    | nil => exact h kV doc pm an cdv ct a0 a1 a2
    | cons _ _ => cases hl
theorem bnd4 {x : Str} {st : Stmt} {p0 p1 p2 p3 : Str} (h : ∀ (kV doc pm : Value) (an : Option Addr) (cdv ct : Value) (a0 a1 a2 a3 : Value), bindArgs (PySem.W.fnOf x x (zmp st) (zkj st) (zkg st) .none kV doc pm an cdv ct) ⟨[a0, a1, a2, a3], []⟩ = pure ([p0, p1, p2, p3].zip [a0, a1, a2, a3])) : Bnd x st [p0, p1, p2, p3] := fun kV doc pm an cdv ct us hl => by
 cases us with
 | nil => cases hl
 | cons a0 r0 =>
  cases r0 with
  | nil => cases hl
  | cons a1 r1 =>
   cases r1 with
   | nil => cases hl
   | cons a2 r2 =>
    cases r2 with
    | nil => cases hl
    | cons a3 r3 =>
     cases r3 with
     | nil => exact h kV doc pm an cdv ct a0 a1 a2 a3
     | cons _ _ => cases hl
theorem zrr : FnScope ["_law_one", "_law_two", "_law_three", "_law_found"] ["_law_one", "_law_two", "_law_three"] (zkg (top 26)) := ⟨rfl, rfl, rfl, by decide +kernel, rfl, by decide +kernel, by decide +kernel⟩
theorem zsn : Bnd "_law_turn" (top 26) ["_law_one", "_law_two", "_law_three"] := bnd3 fun _ _ _ _ _ _ _ _ _ => rfl
theorem zrs : FnScope ["_law_points_here", "_law_found", "_law_row", "_law_part", "_law_point"] ["_law_points_here"] (zkg (top 27)) := ⟨rfl, rfl, rfl, by decide +kernel, rfl, by decide +kernel, by decide +kernel⟩
theorem zso : Bnd "_law_ring" (top 27) ["_law_points_here"] := bnd1 fun _ _ _ _ _ _ _ => rfl
theorem zwj : FnScope ["_law_script", "_law_k", "_law_cell", "_law_j"] ["_law_script", "_law_k"] (zkg (top 20)) := ⟨rfl, rfl, rfl, by decide +kernel, rfl, by decide +kernel, by decide +kernel⟩
theorem zxs : Bnd "_law_block" (top 20) ["_law_script", "_law_k"] := bnd2 fun _ _ _ _ _ _ _ _ => rfl
theorem zwi : FnScope ["_law_script", "_law_k", "_law_cell", "_law_number"] ["_law_script", "_law_k"] (zkg (top 21)) := ⟨rfl, rfl, rfl, by decide +kernel, rfl, by decide +kernel, by decide +kernel⟩
theorem zxr : Bnd "_law_mixed" (top 21) ["_law_script", "_law_k"] := bnd2 fun _ _ _ _ _ _ _ _ => rfl
theorem zpp : FnScope ["_law_script", "_law_start", "_law_most", "_law_way_here", "_law_found", "_law_k", "_law_number", "_law_point", "_law_x", "_law_y"] ["_law_script", "_law_start", "_law_most"] (zkg (top 25)) := ⟨rfl, rfl, rfl, by decide +kernel, rfl, by decide +kernel, by decide +kernel⟩
theorem zpx : Bnd "_law_points" (top 25) ["_law_script", "_law_start", "_law_most"] := bnd3 fun _ _ _ _ _ _ _ _ _ => rfl
theorem ztb : FnScope ["_law_script", "_law_k"] ["_law_script", "_law_k"] (zkg (top 18)) := ⟨rfl, rfl, rfl, by decide +kernel, rfl, by decide +kernel, by decide +kernel⟩
theorem zte : Bnd "_law_cell_at" (top 18) ["_law_script", "_law_k"] := bnd2 fun _ _ _ _ _ _ _ _ => rfl
theorem zta : FnScope ["_law_one", "_law_other"] ["_law_one", "_law_other"] (zkg (top 22)) := ⟨rfl, rfl, rfl, by decide +kernel, rfl, by decide +kernel, by decide +kernel⟩
theorem ztd : Bnd "_law_divisor" (top 22) ["_law_one", "_law_other"] := bnd2 fun _ _ _ _ _ _ _ _ => rfl
theorem zug : FnScope ["_law_top", "_law_bottom", "_law_by"] ["_law_top", "_law_bottom"] (zkg (top 23)) := ⟨rfl, rfl, rfl, by decide +kernel, rfl, by decide +kernel, by decide +kernel⟩
theorem zvg : Bnd "_law_lowest" (top 23) ["_law_top", "_law_bottom"] := bnd2 fun _ _ _ _ _ _ _ _ => rfl
theorem zqk : FnScope ["_law_script", "_law_start", "_law_most", "_law_ring_here", "_law_number", "_law_share", "_law_by", "_law_far"] ["_law_script", "_law_start", "_law_most"] (zkg (top 28)) := ⟨rfl, rfl, rfl, by decide +kernel, rfl, by decide +kernel, by decide +kernel⟩
theorem zqq : Bnd "_law_shape" (top 28) ["_law_script", "_law_start", "_law_most"] := bnd3 fun _ _ _ _ _ _ _ _ _ => rfl
theorem zrt : FnScope ["_law_script", "_law_k", "_law_number", "_law_cell", "_law_x", "_law_y"] ["_law_script", "_law_k"] (zkg (top 33)) := ⟨rfl, rfl, rfl, by decide +kernel, rfl, by decide +kernel, by decide +kernel⟩
theorem zsp : Bnd "_law_push" (top 33) ["_law_script", "_law_k"] := bnd2 fun _ _ _ _ _ _ _ _ => rfl
theorem zwk : FnScope ["_law_one", "_law_other"] ["_law_one", "_law_other"] (zkg (top 34)) := ⟨rfl, rfl, rfl, by decide +kernel, rfl, by decide +kernel, by decide +kernel⟩
theorem zxt : Bnd "_law_added" (top 34) ["_law_one", "_law_other"] := bnd2 fun _ _ _ _ _ _ _ _ => rfl
theorem zqj : FnScope ["_law_one", "_law_other"] ["_law_one", "_law_other"] (zkg (top 35)) := ⟨rfl, rfl, rfl, by decide +kernel, rfl, by decide +kernel, by decide +kernel⟩
theorem zqp : Bnd "_law_times" (top 35) ["_law_one", "_law_other"] := bnd2 fun _ _ _ _ _ _ _ _ => rfl
theorem ybg : FnScope ["one", "other", "great", "small", "rest"] ["one", "other"] (zkg (top 5)) := ⟨rfl, rfl, rfl, by decide +kernel, rfl, by decide +kernel, by decide +kernel⟩
theorem ycd : Bnd "divisor" (top 5) ["one", "other"] := bnd2 fun _ _ _ _ _ _ _ _ => rfl
theorem ynf : FnScope ["one", "other", "shared", "top", "rest"] ["one", "other"] (zkg (top 7)) := ⟨rfl, rfl, rfl, by decide +kernel, rfl, by decide +kernel, by decide +kernel⟩
theorem yqs : Bnd "plus" (top 7) ["one", "other"] := bnd2 fun _ _ _ _ _ _ _ _ => rfl
theorem yhz : FnScope ["one", "other"] ["one", "other"] (zkg (top 12)) := ⟨rfl, rfl, rfl, by decide +kernel, rfl, by decide +kernel, by decide +kernel⟩
theorem ykq : Bnd "added" (top 12) ["one", "other"] := bnd2 fun _ _ _ _ _ _ _ _ => rfl
theorem ydj : FnScope ["shape", "push"] ["shape", "push"] (zkg (top 11)) := ⟨rfl, rfl, rfl, by decide +kernel, rfl, by decide +kernel, by decide +kernel⟩
theorem ygl : Bnd "pushed" (top 11) ["shape", "push"] := bnd2 fun _ _ _ _ _ _ _ _ => rfl
theorem yhw : FnScope ["top", "bottom", "shared"] ["top", "bottom"] (zkg (top 6)) := ⟨rfl, rfl, rfl, by decide +kernel, rfl, by decide +kernel, by decide +kernel⟩
theorem ykn : Bnd "ratio" (top 6) ["top", "bottom"] := bnd2 fun _ _ _ _ _ _ _ _ => rfl
theorem yhu : FnScope ["one", "other"] ["one", "other"] (zkg (top 8)) := ⟨rfl, rfl, rfl, by decide +kernel, rfl, by decide +kernel, by decide +kernel⟩
theorem ykl : Bnd "times" (top 8) ["one", "other"] := bnd2 fun _ _ _ _ _ _ _ _ => rfl
theorem yhv : FnScope ["shape", "factor"] ["shape", "factor"] (zkg (top 13)) := ⟨rfl, rfl, rfl, by decide +kernel, rfl, by decide +kernel, by decide +kernel⟩
theorem ykm : Bnd "sized" (top 13) ["shape", "factor"] := bnd2 fun _ _ _ _ _ _ _ _ => rfl
theorem yhx : FnScope ["one", "other"] ["one", "other"] (zkg (top 9)) := ⟨rfl, rfl, rfl, by decide +kernel, rfl, by decide +kernel, by decide +kernel⟩
theorem yko : Bnd "below" (top 9) ["one", "other"] := bnd2 fun _ _ _ _ _ _ _ _ => rfl
theorem yhy : FnScope ["one", "other"] ["one", "other"] (zkg (top 15)) := ⟨rfl, rfl, rfl, by decide +kernel, rfl, by decide +kernel, by decide +kernel⟩
theorem ykp : Bnd "ahead" (top 15) ["one", "other"] := bnd2 fun _ _ _ _ _ _ _ _ => rfl
theorem zui : FnScope ["corners", "first", "k"] ["corners"] (zkg (top 16)) := ⟨rfl, rfl, rfl, by decide +kernel, rfl, by decide +kernel, by decide +kernel⟩
theorem zvi : Bnd "from_first" (top 16) ["corners"] := bnd1 fun _ _ _ _ _ _ _ => rfl
theorem ydi : FnScope ["shape"] ["shape"] (zkg (top 14)) := ⟨rfl, rfl, rfl, by decide +kernel, rfl, by decide +kernel, by decide +kernel⟩
theorem ygk : Bnd "turned" (top 14) ["shape"] := bnd1 fun _ _ _ _ _ _ _ => rfl
theorem zuh : FnScope ["_law_one", "_law_other"] ["_law_one", "_law_other"] (zkg (top 31)) := ⟨rfl, rfl, rfl, by decide +kernel, rfl, by decide +kernel, by decide +kernel⟩
theorem zvh : Bnd "_law_before" (top 31) ["_law_one", "_law_other"] := bnd2 fun _ _ _ _ _ _ _ _ => rfl
theorem zrv : FnScope ["_law_spot", "_law_x", "_law_y"] ["_law_spot"] (zkg (top 29)) := ⟨rfl, rfl, rfl, by decide +kernel, rfl, by decide +kernel, by decide +kernel⟩
theorem zsr : Bnd "_law_flat" (top 29) ["_law_spot"] := bnd1 fun _ _ _ _ _ _ _ => rfl
theorem zqm : FnScope ["_law_shape_here", "_law_ring_here", "_law_k", "_law_later"] ["_law_shape_here"] (zkg (top 36)) := ⟨rfl, rfl, rfl, by decide +kernel, rfl, by decide +kernel, by decide +kernel⟩
theorem zqs : Bnd "_law_half_turn" (top 36) ["_law_shape_here"] := bnd1 fun _ _ _ _ _ _ _ => rfl
theorem zwh : FnScope ["_law_found"] ["_law_found"] (zkg (top 19)) := ⟨rfl, rfl, rfl, by decide +kernel, rfl, by decide +kernel, by decide +kernel⟩
theorem zxq : Bnd "_law_whole" (top 19) ["_law_found"] := bnd1 fun _ _ _ _ _ _ _ => rfl
theorem zou : FnScope ["_law_found"] ["_law_found"] (zkg (top 24)) := ⟨rfl, rfl, rfl, by decide +kernel, rfl, by decide +kernel, by decide +kernel⟩
theorem zpi : Bnd "_law_is_fraction" (top 24) ["_law_found"] := bnd1 fun _ _ _ _ _ _ _ => rfl
theorem zsz : FnScope ["_law_one", "_law_two", "_law_three", "_law_found"] ["_law_one", "_law_two", "_law_three"] (zkg (top 30)) := ⟨rfl, rfl, rfl, by decide +kernel, rfl, by decide +kernel, by decide +kernel⟩
theorem ztc : Bnd "_law_way" (top 30) ["_law_one", "_law_two", "_law_three"] := bnd3 fun _ _ _ _ _ _ _ _ _ => rfl
theorem zru : FnScope ["_law_found", "_law_spot", "_law_corners", "_law_k", "_law_here"] ["_law_found"] (zkg (top 32)) := ⟨rfl, rfl, rfl, by decide +kernel, rfl, by decide +kernel, by decide +kernel⟩
theorem zsq : Bnd "_law_is_shape" (top 32) ["_law_found"] := bnd1 fun _ _ _ _ _ _ _ => rfl
theorem zql : FnScope ["_law_found", "_law_due", "_law_shape_here", "_law_handed"] ["_law_found", "_law_due", "_law_shape_here", "_law_handed"] (zkg (top 37)) := ⟨rfl, rfl, rfl, by decide +kernel, rfl, by decide +kernel, by decide +kernel⟩
theorem zqr : Bnd "_law_right" (top 37) ["_law_found", "_law_due", "_law_shape_here", "_law_handed"] := bnd4 fun _ _ _ _ _ _ _ _ _ _ => rfl
theorem ybf : FnScope ["_law_script", "_law_shape_here", "_law_push_here", "_law_number", "_law_factor", "_law_handed", "_law_moved", "_law_greater"] ["_law_script"] (zkg (top 38)) := ⟨rfl, rfl, rfl, by decide +kernel, rfl, by decide +kernel, by decide +kernel⟩
theorem ycc : Bnd "law" (top 38) ["_law_script"] := bnd1 fun _ _ _ _ _ _ _ => rfl
theorem zri : trSs 40 ⟨["_law_one", "_law_two", "_law_three", "_law_found"], zkg (top 26), [], [], false⟩ (zkj (top 26)) = some zlj := by kernel_rfl
theorem zrj : trSs 40 ⟨["_law_points_here", "_law_found", "_law_row", "_law_part", "_law_point"], zkg (top 27), [("_law_turn", 45, 3)], [], false⟩ (zkj (top 27)) = some zlk := by kernel_rfl
theorem zvs : trSs 40 ⟨["_law_script", "_law_k", "_law_cell", "_law_j"], zkg (top 20), [], [], false⟩ (zkj (top 20)) = some zly := by kernel_rfl
theorem zvr : trSs 40 ⟨["_law_script", "_law_k", "_law_cell", "_law_number"], zkg (top 21), [("_law_block", 28, 2)], [], false⟩ (zkj (top 21)) = some zmr := by kernel_rfl
theorem zpn : trSs 40 ⟨["_law_script", "_law_start", "_law_most", "_law_way_here", "_law_found", "_law_k", "_law_number", "_law_point", "_law_x", "_law_y"], zkg (top 25), [("_law_mixed", 29, 2)], [], false⟩ (zkj (top 25)) = some zmg := by kernel_rfl
theorem zsy : trSs 40 ⟨["_law_script", "_law_k"], zkg (top 18), [], [], false⟩ (zkj (top 18)) = some zml := by kernel_rfl
theorem zsx : trSs 40 ⟨["_law_one", "_law_other"], zkg (top 22), [], [], false⟩ (zkj (top 22)) = some zmk := by kernel_rfl
theorem zty : trSs 40 ⟨["_law_top", "_law_bottom", "_law_by"], zkg (top 23), [("_law_divisor", 12, 2)], [], false⟩ (zkj (top 23)) = some zmz := by kernel_rfl
theorem zqh : trSs 40 ⟨["_law_script", "_law_start", "_law_most", "_law_ring_here", "_law_number", "_law_share", "_law_by", "_law_far"], zkg (top 28), [("_law_ring", 46, 1), ("_law_points", 34, 3), ("_law_mixed", 29, 2), ("_law_cell_at", 2, 2), ("_law_lowest", 13, 2)], [], false⟩ (zkj (top 28)) = some zkw := by kernel_rfl
theorem zrk : trSs 40 ⟨["_law_script", "_law_k", "_law_number", "_law_cell", "_law_x", "_law_y"], zkg (top 33), [("_law_mixed", 29, 2), ("_law_cell_at", 2, 2), ("_law_lowest", 13, 2)], [], false⟩ (zkj (top 33)) = some zlb := by kernel_rfl
theorem zvt : trSs 40 ⟨["_law_one", "_law_other"], zkg (top 34), [("_law_lowest", 13, 2)], [], false⟩ (zkj (top 34)) = some zms := by kernel_rfl
theorem zqg : trSs 40 ⟨["_law_one", "_law_other"], zkg (top 35), [("_law_lowest", 13, 2)], [], false⟩ (zkj (top 35)) = some zlf := by kernel_rfl
theorem yay : trSs 40 ⟨["one", "other", "great", "small", "rest"], zkg (top 5), [], [], false⟩ (zkj (top 5)) = some zpk := by kernel_rfl
theorem ymn : trSs 40 ⟨["one", "other", "shared", "top", "rest"], zkg (top 7), [("divisor", 0, 2)], [], false⟩ (zkj (top 7)) = some yap := by kernel_rfl
theorem yhj : trSs 40 ⟨["one", "other"], zkg (top 12), [("plus", 9, 2)], [], false⟩ (zkj (top 12)) = some zst := by kernel_rfl
theorem ycn : trSs 40 ⟨["shape", "push"], zkg (top 11), [("added", 67, 2)], [], false⟩ (zkj (top 11)) = some zog := by kernel_rfl
theorem yhg : trSs 40 ⟨["top", "bottom", "shared"], zkg (top 6), [("divisor", 0, 2)], [], false⟩ (zkj (top 6)) = some zvk := by kernel_rfl
theorem yhe : trSs 40 ⟨["one", "other"], zkg (top 8), [("ratio", 1, 2)], [], false⟩ (zkj (top 8)) = some zvj := by kernel_rfl
theorem yhf : trSs 40 ⟨["shape", "factor"], zkg (top 13), [("times", 11, 2)], [], false⟩ (zkj (top 13)) = some zpy := by kernel_rfl
theorem yhh : trSs 40 ⟨["one", "other"], zkg (top 9), [], [], false⟩ (zkj (top 9)) = some zvl := by kernel_rfl
theorem yhi : trSs 40 ⟨["one", "other"], zkg (top 15), [("below", 21, 2)], [], false⟩ (zkj (top 15)) = some zss := by kernel_rfl
theorem zua : trSs 40 ⟨["corners", "first", "k"], zkg (top 16), [("ahead", 70, 2)], [], false⟩ (zkj (top 16)) = some zln := by kernel_rfl
theorem ycm : trSs 40 ⟨["shape"], zkg (top 14), [("from_first", 71, 1)], [], false⟩ (zkj (top 14)) = some zpj := by kernel_rfl
theorem ztz : trSs 40 ⟨["_law_one", "_law_other"], zkg (top 31), [], [], false⟩ (zkj (top 31)) = some zmb := by kernel_rfl
theorem zrm : trSs 40 ⟨["_law_spot", "_law_x", "_law_y"], zkg (top 29), [], [], false⟩ (zkj (top 29)) = some zlm := by kernel_rfl
theorem zqi : trSs 40 ⟨["_law_shape_here", "_law_ring_here", "_law_k", "_law_later"], zkg (top 36), [("_law_before", 32, 2), ("_law_flat", 30, 1)], [], false⟩ (zkj (top 36)) = some zlg := by kernel_rfl
theorem zvq : trSs 40 ⟨["_law_found"], zkg (top 19), [], [], false⟩ (zkj (top 19)) = some znn := by kernel_rfl
theorem zor : trSs 40 ⟨["_law_found"], zkg (top 24), [("_law_whole", 3, 1), ("_law_divisor", 12, 2)], [], false⟩ (zkj (top 24)) = some zlh := by kernel_rfl
theorem zsw : trSs 40 ⟨["_law_one", "_law_two", "_law_three", "_law_found"], zkg (top 30), [], [], false⟩ (zkj (top 30)) = some zls := by kernel_rfl
theorem zrl : trSs 40 ⟨["_law_found", "_law_spot", "_law_corners", "_law_k", "_law_here"], zkg (top 32), [("_law_is_fraction", 14, 1), ("_law_flat", 30, 1), ("_law_before", 32, 2), ("_law_way", 31, 3)], [], false⟩ (zkj (top 32)) = some zll := by kernel_rfl
theorem zpm : trSs 40 ⟨["_law_found", "_law_due", "_law_shape_here", "_law_handed"], zkg (top 37), [("_law_is_shape", 33, 1)], [], false⟩ (zkj (top 37)) = some zkx := by kernel_rfl
theorem yax : trSs 40 ⟨["_law_script", "_law_shape_here", "_law_push_here", "_law_number", "_law_factor", "_law_handed", "_law_moved", "_law_greater"], zkg (top 38), [("_law_shape", 47, 3), ("_law_push", 72, 2), ("_law_mixed", 29, 2), ("_law_lowest", 13, 2), ("_law_cell_at", 2, 2), ("_law_added", 73, 2), ("_law_times", 74, 2), ("pushed", 66, 2), ("sized", 68, 2), ("turned", 69, 1), ("_law_half_turn", 75, 1)], [("_law_right", 1035, 4)], false⟩ (zkj (top 38)) = some zne := by kernel_rfl
section
variable {P : Program} {w : World} {K : PySem.W.Frag} {h : Heap} {mg : Str → Option Value} {fa : Addr}
theorem all_mk (X : K.In h) (G : h.Ns mainGlobals mg) (hfa : mg "law" = some (.ref fa)) (A_law_turn_k13 : At K "_law_turn" (top 26)) (A_law_ring_k13 : At K "_law_ring" (top 27)) (A_law_block : At K "_law_block" (top 20)) (A_law_mixed : At K "_law_mixed" (top 21)) (A_law_points_k14 : At K "_law_points" (top 25)) (A_law_cell_at : At K "_law_cell_at" (top 18)) (A_law_divisor : At K "_law_divisor" (top 22)) (A_law_lowest : At K "_law_lowest" (top 23)) (A_law_shape_k13 : At K "_law_shape" (top 28)) (A_law_push_k16 : At K "_law_push" (top 33)) (A_law_added : At K "_law_added" (top 34)) (A_law_times_k16 : At K "_law_times" (top 35)) (A_divisor : At K "divisor" (top 5)) (A_plus : At K "plus" (top 7)) (A_added : At K "added" (top 12)) (A_pushed : At K "pushed" (top 11)) (A_ratio : At K "ratio" (top 6)) (A_times : At K "times" (top 8)) (A_sized : At K "sized" (top 13)) (A_below : At K "below" (top 9)) (A_ahead : At K "ahead" (top 15)) (A_from_first : At K "from_first" (top 16)) (A_turned : At K "turned" (top 14)) (A_law_before : At K "_law_before" (top 31)) (A_law_flat_k11 : At K "_law_flat" (top 29)) (A_law_half_turn : At K "_law_half_turn" (top 36)) (A_law_whole : At K "_law_whole" (top 19)) (A_law_is_fraction : At K "_law_is_fraction" (top 24)) (A_law_way_k11 : At K "_law_way" (top 30)) (A_law_is_shape : At K "_law_is_shape" (top 32)) (A_law_right_k16 : At K "_law_right" (top 37)) (A_law_k16 : At K "law" (top 38))
  (z_len : PySem.W.nsIn K mainGlobals "len" = some none) (z_abs : PySem.W.nsIn K mainGlobals "abs" = some none) (z_isinstance : PySem.W.nsIn K mainGlobals "isinstance" = some none) (z_int : PySem.W.nsIn K mainGlobals "int" = some none) (z_bool : PySem.W.nsIn K mainGlobals "bool" = some none) (z_tuple : PySem.W.nsIn K mainGlobals "tuple" = some none) (z_list : PySem.W.nsIn K mainGlobals "list" = some none) (z_range : PySem.W.nsIn K mainGlobals "range" = some none) (z_enumerate : PySem.W.nsIn K mainGlobals "enumerate" = some none) (z_min : PySem.W.nsIn K mainGlobals "min" = some none) (z_max : PySem.W.nsIn K mainGlobals "max" = some none) (z_sorted : PySem.W.nsIn K mainGlobals "sorted" = some none) (z_set : PySem.W.nsIn K mainGlobals "set" = some none) (z_reversed : PySem.W.nsIn K mainGlobals "reversed" = some none) (z_zip : PySem.W.nsIn K mainGlobals "zip" = some none) (z_sum : PySem.W.nsIn K mainGlobals "sum" = some none) :
  ∃ fd : FuncData, (∀ (s : Shared) (v : Value), BindsTo s fd ⟨[v], []⟩ [("_law_script", v)]) ∧ ∀ base : Heap, K.In base → base.Ns mainGlobals mg → FnOk P w K mg base CX0 32 fa fd ["_law_script"] (spD K 1 (run Γ zne 8)) := by
 have hb : ∀ x ∈ zmx, mg x = none := ykf X G (by
  intro x hx
  simp only [zmx, zan, zer, or_false] at hx
  rcases hx with rfl | rfl | rfl | rfl | rfl | rfl | rfl | rfl | rfl | rfl | rfl | rfl | rfl | rfl | rfl | rfl <;> assumption)
 refine law_at A_law_k16 X G hfa ybf ycc yax (fun base hk hn => ?_)
 have G_law_turn_k13 : GFn P w K mg base 1 "_law_turn" 3 (Γ 45) := zkt (k := 0) A_law_turn_k13 X G zrr zsn zri rfl ⟨Calls.nil, CallsR.nil, (fun h => nomatch h), hb⟩ ok_law_turn_k13
 have G_law_ring_k13 : GFn P w K mg base 2 "_law_ring" 1 (Γ 46) := zkt (k := 1) A_law_ring_k13 X G zrs zso zrj rfl ⟨(Calls.cons G_law_turn_k13 (by decide) Calls.nil), CallsR.nil, (fun h => nomatch h), hb⟩ ok_law_ring_k13
 have G_law_block : GFn P w K mg base 3 "_law_block" 2 (Γ 28) := zkt (k := 2) A_law_block X G zwj zxs zvs rfl ⟨Calls.nil, CallsR.nil, (fun h => nomatch h), hb⟩ ok_law_block
 have G_law_mixed : GFn P w K mg base 4 "_law_mixed" 2 (Γ 29) := zkt (k := 3) A_law_mixed X G zwi zxr zvr rfl ⟨(Calls.cons G_law_block (by decide) Calls.nil), CallsR.nil, (fun h => nomatch h), hb⟩ ok_law_mixed
 have G_law_points_k14 : GFn P w K mg base 5 "_law_points" 3 (Γ 34) := zkt (k := 4) A_law_points_k14 X G zpp zpx zpn rfl ⟨(Calls.cons G_law_mixed (by decide) Calls.nil), CallsR.nil, (fun h => nomatch h), hb⟩ ok_law_points_k14
 have G_law_cell_at : GFn P w K mg base 6 "_law_cell_at" 2 (Γ 2) := zkt (k := 5) A_law_cell_at X G ztb zte zsy rfl ⟨Calls.nil, CallsR.nil, (fun h => nomatch h), hb⟩ ok_law_cell_at
 have G_law_divisor : GFn P w K mg base 7 "_law_divisor" 2 (Γ 12) := zkt (k := 6) A_law_divisor X G zta ztd zsx rfl ⟨Calls.nil, CallsR.nil, (fun h => nomatch h), hb⟩ ok_law_divisor
 have G_law_lowest : GFn P w K mg base 8 "_law_lowest" 2 (Γ 13) := zkt (k := 7) A_law_lowest X G zug zvg zty rfl ⟨(Calls.cons G_law_divisor (by decide) Calls.nil), CallsR.nil, (fun h => nomatch h), hb⟩ ok_law_lowest
 have G_law_shape_k13 : GFn P w K mg base 9 "_law_shape" 3 (Γ 47) := zkt (k := 8) A_law_shape_k13 X G zqk zqq zqh rfl ⟨(Calls.cons G_law_ring_k13 (by decide) (Calls.cons G_law_points_k14 (by decide) (Calls.cons G_law_mixed (by decide) (Calls.cons G_law_cell_at (by decide) (Calls.cons G_law_lowest (by decide) Calls.nil))))), CallsR.nil, (fun h => nomatch h), hb⟩ ok_law_shape_k13
 have G_law_push_k16 : GFn P w K mg base 10 "_law_push" 2 (Γ 72) := zkt (k := 9) A_law_push_k16 X G zrt zsp zrk rfl ⟨(Calls.cons G_law_mixed (by decide) (Calls.cons G_law_cell_at (by decide) (Calls.cons G_law_lowest (by decide) Calls.nil))), CallsR.nil, (fun h => nomatch h), hb⟩ ok_law_push_k16
 have G_law_added : GFn P w K mg base 11 "_law_added" 2 (Γ 73) := zkt (k := 10) A_law_added X G zwk zxt zvt rfl ⟨(Calls.cons G_law_lowest (by decide) Calls.nil), CallsR.nil, (fun h => nomatch h), hb⟩ ok_law_added
 have G_law_times_k16 : GFn P w K mg base 12 "_law_times" 2 (Γ 74) := zkt (k := 11) A_law_times_k16 X G zqj zqp zqg rfl ⟨(Calls.cons G_law_lowest (by decide) Calls.nil), CallsR.nil, (fun h => nomatch h), hb⟩ ok_law_times_k16
 have G_divisor : GFn P w K mg base 13 "divisor" 2 (Γ 0) := zkt (k := 12) A_divisor X G ybg ycd yay rfl ⟨Calls.nil, CallsR.nil, (fun h => nomatch h), hb⟩ ok_divisor
 have G_plus : GFn P w K mg base 14 "plus" 2 (Γ 9) := zkt (k := 13) A_plus X G ynf yqs ymn rfl ⟨(Calls.cons G_divisor (by decide) Calls.nil), CallsR.nil, (fun h => nomatch h), hb⟩ ok_plus
 have G_added : GFn P w K mg base 15 "added" 2 (Γ 67) := zkt (k := 14) A_added X G yhz ykq yhj rfl ⟨(Calls.cons G_plus (by decide) Calls.nil), CallsR.nil, (fun h => nomatch h), hb⟩ ok_added
 have G_pushed : GFn P w K mg base 16 "pushed" 2 (Γ 66) := zkt (k := 15) A_pushed X G ydj ygl ycn rfl ⟨(Calls.cons G_added (by decide) Calls.nil), CallsR.nil, (fun h => nomatch h), hb⟩ ok_pushed
 have G_ratio : GFn P w K mg base 17 "ratio" 2 (Γ 1) := zkt (k := 16) A_ratio X G yhw ykn yhg rfl ⟨(Calls.cons G_divisor (by decide) Calls.nil), CallsR.nil, (fun h => nomatch h), hb⟩ ok_ratio
 have G_times : GFn P w K mg base 18 "times" 2 (Γ 11) := zkt (k := 17) A_times X G yhu ykl yhe rfl ⟨(Calls.cons G_ratio (by decide) Calls.nil), CallsR.nil, (fun h => nomatch h), hb⟩ ok_times
 have G_sized : GFn P w K mg base 19 "sized" 2 (Γ 68) := zkt (k := 18) A_sized X G yhv ykm yhf rfl ⟨(Calls.cons G_times (by decide) Calls.nil), CallsR.nil, (fun h => nomatch h), hb⟩ ok_sized
 have G_below : GFn P w K mg base 20 "below" 2 (Γ 21) := zkt (k := 19) A_below X G yhx yko yhh rfl ⟨Calls.nil, CallsR.nil, (fun h => nomatch h), hb⟩ ok_below
 have G_ahead : GFn P w K mg base 21 "ahead" 2 (Γ 70) := zkt (k := 20) A_ahead X G yhy ykp yhi rfl ⟨(Calls.cons G_below (by decide) Calls.nil), CallsR.nil, (fun h => nomatch h), hb⟩ ok_ahead
 have G_from_first : GFn P w K mg base 22 "from_first" 1 (Γ 71) := zkt (k := 21) A_from_first X G zui zvi zua rfl ⟨(Calls.cons G_ahead (by decide) Calls.nil), CallsR.nil, (fun h => nomatch h), hb⟩ ok_from_first
 have G_turned : GFn P w K mg base 23 "turned" 1 (Γ 69) := zkt (k := 22) A_turned X G ydi ygk ycm rfl ⟨(Calls.cons G_from_first (by decide) Calls.nil), CallsR.nil, (fun h => nomatch h), hb⟩ ok_turned
 have G_law_before : GFn P w K mg base 24 "_law_before" 2 (Γ 32) := zkt (k := 23) A_law_before X G zuh zvh ztz rfl ⟨Calls.nil, CallsR.nil, (fun h => nomatch h), hb⟩ ok_law_before
 have G_law_flat_k11 : GFn P w K mg base 25 "_law_flat" 1 (Γ 30) := zkt (k := 24) A_law_flat_k11 X G zrv zsr zrm rfl ⟨Calls.nil, CallsR.nil, (fun h => nomatch h), hb⟩ ok_law_flat_k11
 have G_law_half_turn : GFn P w K mg base 26 "_law_half_turn" 1 (Γ 75) := zkt (k := 25) A_law_half_turn X G zqm zqs zqi rfl ⟨(Calls.cons G_law_before (by decide) (Calls.cons G_law_flat_k11 (by decide) Calls.nil)), CallsR.nil, (fun h => nomatch h), hb⟩ ok_law_half_turn
 have G_law_whole : GFn P w K mg base 27 "_law_whole" 1 (Γ 3) := zkt (k := 26) A_law_whole X G zwh zxq zvq rfl ⟨Calls.nil, CallsR.nil, (fun h => nomatch h), hb⟩ ok_law_whole
 have G_law_is_fraction : GFn P w K mg base 28 "_law_is_fraction" 1 (Γ 14) := zkt (k := 27) A_law_is_fraction X G zou zpi zor rfl ⟨(Calls.cons G_law_whole (by decide) (Calls.cons G_law_divisor (by decide) Calls.nil)), CallsR.nil, (fun h => nomatch h), hb⟩ ok_law_is_fraction
 have G_law_way_k11 : GFn P w K mg base 29 "_law_way" 3 (Γ 31) := zkt (k := 28) A_law_way_k11 X G zsz ztc zsw rfl ⟨Calls.nil, CallsR.nil, (fun h => nomatch h), hb⟩ ok_law_way_k11
 have G_law_is_shape : GFn P w K mg base 30 "_law_is_shape" 1 (Γ 33) := zkt (k := 29) A_law_is_shape X G zru zsq zrl rfl ⟨(Calls.cons G_law_is_fraction (by decide) (Calls.cons G_law_flat_k11 (by decide) (Calls.cons G_law_before (by decide) (Calls.cons G_law_way_k11 (by decide) Calls.nil)))), CallsR.nil, (fun h => nomatch h), hb⟩ ok_law_is_shape
 have R_law_right_k16 : GFr P w K mg base 31 "_law_right" 4 (Γ 1035) := gfo_at (k := 30) A_law_right_k16 X G zql zqr zpm rfl ⟨(Calls.cons G_law_is_shape (by decide) Calls.nil), CallsR.nil, (fun h => nomatch h), hb⟩ okr_law_right_k16
 exact ⟨(Calls.cons G_law_shape_k13 (by decide) (Calls.cons G_law_push_k16 (by decide) (Calls.cons G_law_mixed (by decide) (Calls.cons G_law_lowest (by decide) (Calls.cons G_law_cell_at (by decide) (Calls.cons G_law_added (by decide) (Calls.cons G_law_times_k16 (by decide) (Calls.cons G_pushed (by decide) (Calls.cons G_sized (by decide) (Calls.cons G_turned (by decide) (Calls.cons G_law_half_turn (by decide) Calls.nil))))))))))), (CallsR.cons R_law_right_k16 (by decide) CallsR.nil), (fun h => nomatch h), hb⟩
end
theorem walk {l : PySem.W.OpenLaw} {q : Program} {loose : List Str} {XP : (Str → Option Value) → Heap → Prop} {YP : World → Heap → Prop} {d : DefRec} {K : Params → PySem.W.Frag} (hn : l.most = some 63) (hdf : d.params.defaults = [])
  (hY : ∀ (w : World) (h : Heap), YP w h → (K w.params).In h)
  (F : ∀ (w : World) (mg : Str → Option Value) (fa : Addr) (h : Heap), (K w.params).In h → h.Ns mainGlobals mg → mg d.name = some (.ref fa) →
   ∃ fd : FuncData, (∀ (s : Shared) (u : Value), BindsTo s fd ⟨[u], []⟩ [("_law_script", u)]) ∧ ∀ base : Heap, (K w.params).In base → base.Ns mainGlobals mg → FnOk l.prog w (K w.params) mg base CX0 32 fa fd ["_law_script"] (spD (K w.params) 1 (run Γ zne 8))) :
  PySem.W.WalkO q loose XP YP l.row.toRowW d [] (fun f vs => PySem.call f vs) :=
 L2.walk_of (n := 63) (k := 32) (x := "_law_script") (CX := fun _ => CX0) (sp := fun w => spD (K w.params) 1 (run Γ zne 8)) hn (by decide) hdf ⟨rfl, by decide, by decide⟩ hY F (fun _ H a ns hl _ hS => yjb yja H a ns hl hS) fun _ _ _ _ _ z => z
end LW
open PySem PySem.W PyProof.Rows
/-- size: the head lays a twin of the frag under this name and uses it nowhere; a name that stands is not laid again -/
theorem PySem.W.Fast.te12606118339411618058 : True := trivial
set_option maxRecDepth 100000 in
set_option maxHeartbeats 0 in
theorem PySem.Challenge.cw_snugfit_k16_pushed_sized_turned_holds : PySem.Challenge.rw_snugfit_k16_pushed_sized_turned.Holds := by
 w_on; o_law; k_head; (case hw => w_witness2)
 k_fill
 refine LW.walk (l := PySem.Challenge.rw_snugfit_k16_pushed_sized_turned) rfl rfl (fun w h Y => PySem.W.kIn_of Y) ?F
 case F =>
  intro w mg fa h KX G hmg
  refine' LW.all_mk KX G hmg ?A0 ?A1 ?A2 ?A3 ?A4 ?A5 ?A6 ?A7 ?A8 ?A9 ?A10 ?A11 ?A12 ?A13 ?A14 ?A15 ?A16 ?A17 ?A18 ?A19 ?A20 ?A21 ?A22 ?A23 ?A24 ?A25 ?A26 ?A27 ?A28 ?A29 ?A30 ?A31 ?z_len ?z_abs ?z_isinstance ?z_int ?z_bool ?z_tuple ?z_list ?z_range ?z_enumerate ?z_min ?z_max ?z_sorted ?z_set ?z_reversed ?z_zip ?z_sum
  (case A0 => (refine' DL.at_mk ?a ?l ?c ?k; (case a => k_is); (case l => k_is); (case c => k_is); (case k => k_is)))
  (case A1 => (refine' DL.at_mk ?a ?l ?c ?k; (case a => k_is); (case l => k_is); (case c => k_is); (case k => k_is)))
  (case A2 => (refine' DL.at_mk ?a ?l ?c ?k; (case a => k_is); (case l => k_is); (case c => k_is); (case k => k_is)))
  (case A3 => (refine' DL.at_mk ?a ?l ?c ?k; (case a => k_is); (case l => k_is); (case c => k_is); (case k => k_is)))
  (case A4 => (refine' DL.at_mk ?a ?l ?c ?k; (case a => k_is); (case l => k_is); (case c => k_is); (case k => k_is)))
  (case A5 => (refine' DL.at_mk ?a ?l ?c ?k; (case a => k_is); (case l => k_is); (case c => k_is); (case k => k_is)))
  (case A6 => (refine' DL.at_mk ?a ?l ?c ?k; (case a => k_is); (case l => k_is); (case c => k_is); (case k => k_is)))
  (case A7 => (refine' DL.at_mk ?a ?l ?c ?k; (case a => k_is); (case l => k_is); (case c => k_is); (case k => k_is)))
  (case A8 => (refine' DL.at_mk ?a ?l ?c ?k; (case a => k_is); (case l => k_is); (case c => k_is); (case k => k_is)))
  (case A9 => (refine' DL.at_mk ?a ?l ?c ?k; (case a => k_is); (case l => k_is); (case c => k_is); (case k => k_is)))
  (case A10 => (refine' DL.at_mk ?a ?l ?c ?k; (case a => k_is); (case l => k_is); (case c => k_is); (case k => k_is)))
  (case A11 => (refine' DL.at_mk ?a ?l ?c ?k; (case a => k_is); (case l => k_is); (case c => k_is); (case k => k_is)))
  (case A12 => (refine' DL.at_mk ?a ?l ?c ?k; (case a => k_is); (case l => k_is); (case c => k_is); (case k => k_is)))
  (case A13 => (refine' DL.at_mk ?a ?l ?c ?k; (case a => k_is); (case l => k_is); (case c => k_is); (case k => k_is)))
  (case A14 => (refine' DL.at_mk ?a ?l ?c ?k; (case a => k_is); (case l => k_is); (case c => k_is); (case k => k_is)))
  (case A15 => (refine' DL.at_mk ?a ?l ?c ?k; (case a => k_is); (case l => k_is); (case c => k_is); (case k => k_is)))
  (case A16 => (refine' DL.at_mk ?a ?l ?c ?k; (case a => k_is); (case l => k_is); (case c => k_is); (case k => k_is)))
  (case A17 => (refine' DL.at_mk ?a ?l ?c ?k; (case a => k_is); (case l => k_is); (case c => k_is); (case k => k_is)))
  (case A18 => (refine' DL.at_mk ?a ?l ?c ?k; (case a => k_is); (case l => k_is); (case c => k_is); (case k => k_is)))
  (case A19 => (refine' DL.at_mk ?a ?l ?c ?k; (case a => k_is); (case l => k_is); (case c => k_is); (case k => k_is)))
  (case A20 => (refine' DL.at_mk ?a ?l ?c ?k; (case a => k_is); (case l => k_is); (case c => k_is); (case k => k_is)))
  (case A21 => (refine' DL.at_mk ?a ?l ?c ?k; (case a => k_is); (case l => k_is); (case c => k_is); (case k => k_is)))
  (case A22 => (refine' DL.at_mk ?a ?l ?c ?k; (case a => k_is); (case l => k_is); (case c => k_is); (case k => k_is)))
  (case A23 => (refine' DL.at_mk ?a ?l ?c ?k; (case a => k_is); (case l => k_is); (case c => k_is); (case k => k_is)))
  (case A24 => (refine' DL.at_mk ?a ?l ?c ?k; (case a => k_is); (case l => k_is); (case c => k_is); (case k => k_is)))
  (case A25 => (refine' DL.at_mk ?a ?l ?c ?k; (case a => k_is); (case l => k_is); (case c => k_is); (case k => k_is)))
  (case A26 => (refine' DL.at_mk ?a ?l ?c ?k; (case a => k_is); (case l => k_is); (case c => k_is); (case k => k_is)))
  (case A27 => (refine' DL.at_mk ?a ?l ?c ?k; (case a => k_is); (case l => k_is); (case c => k_is); (case k => k_is)))
  (case A28 => (refine' DL.at_mk ?a ?l ?c ?k; (case a => k_is); (case l => k_is); (case c => k_is); (case k => k_is)))
  (case A29 => (refine' DL.at_mk ?a ?l ?c ?k; (case a => k_is); (case l => k_is); (case c => k_is); (case k => k_is)))
  (case A30 => (refine' DL.at_mk ?a ?l ?c ?k; (case a => k_is); (case l => k_is); (case c => k_is); (case k => k_is)))
  (case A31 => (refine' DL.at_mk ?a ?l ?c ?k; (case a => k_is); (case l => k_is); (case c => k_is); (case k => k_is)))
  (case z_len => k_is)
  (case z_abs => k_is)
  (case z_isinstance => k_is)
  (case z_int => k_is)
  (case z_bool => k_is)
  (case z_tuple => k_is)
  (case z_list => k_is)
  (case z_range => k_is)
  (case z_enumerate => k_is)
  (case z_min => k_is)
  (case z_max => k_is)
  (case z_sorted => k_is)
  (case z_set => k_is)
  (case z_reversed => k_is)
  (case z_zip => k_is)
  (case z_sum => k_is)
#print axioms PySem.Challenge.cw_snugfit_k16_pushed_sized_turned_holds

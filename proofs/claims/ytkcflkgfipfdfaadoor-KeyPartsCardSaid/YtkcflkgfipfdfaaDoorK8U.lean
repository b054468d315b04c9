/- Keys: the law KeyUnder. Written by wip/tools/gen8u.py. -/
import Derived.Test.YtkcflkgfipfdfaaDoorK8J
import Derived.OpenShut
import Derived.ProofKit
namespace Go.Proofs.YtkcflkgfipfdfaaDoor
open Go Go.RowKit
set_option linter.unusedVariables false
set_option linter.unusedSimpArgs false
set_option maxRecDepth 100000
set_option maxHeartbeats 400000
theorem under_way (K0 A0 B0 F0 T0 k a b f t q : List UInt8) (PA BK L E M UA UB MT IN OV : Bool) (RG : Ret 20 #[.string (str a)] (.tuple (bif PA then #[.string (str a), .string (str q), .int .i64 0] else #[.string (ByteArray.mk #[]), .string (ByteArray.mk #[]), .int .i64 3]))) (KI : Ret 12 #[.string (str k)] (.bool BK)) (U1 : Ret 14 #[.string (str k), .string (str a)] (.bool UA)) (U2 : Ret 14 #[.string (str k), .string (str b)] (.bool UB)) (MM : Ret 25 #[.string (str a), .string (str b)] (.bool MT)) (II : Ret 22 #[.string (str k), .string (str f), .string (str t)] (.bool IN)) (OO : Ret 26 #[.string (str f), .string (str t), .string (str a)] (.bool OV)) (AW : Ret 16 #[] (.bool true)) (fL : ∀ w, (binOp .geq 9 (.string (str k)) (.string (str a))).run Tryd.prog w = .ok (.bool !L) w) (fE : (str q).toList.isEmpty = E) (fM : Op.bytesLess (str k).toList (str q).toList = M) (G0 : ∀ w, Calls Tryd.prog 8 #[.string (str K0)] w fun e w' => e = .returned (.string (str k)) ∧ w' = w) (G1 : ∀ w, Calls Tryd.prog 8 #[.string (str A0)] w fun e w' => e = .returned (.string (str a)) ∧ w' = w) (G2 : ∀ w, Calls Tryd.prog 8 #[.string (str B0)] w fun e w' => e = .returned (.string (str b)) ∧ w' = w) (G3 : ∀ w, Calls Tryd.prog 8 #[.string (str F0)] w fun e w' => e = .returned (.string (str f)) ∧ w' = w) (G4 : ∀ w, Calls Tryd.prog 8 #[.string (str T0)] w fun e w' => e = .returned (.string (str t)) ∧ w' = w) (hU1 : Hid (PA = true → BK = true → UA = (!L && (E || M)))) (hU0 : Hid ((PA && BK) = false → UA = false)) (hM : Hid (UA = true → UB = true → MT = true)) (hO : Hid (UA = true → IN = true → OV = true)) : Ret 7 #[.agg #[.string (str K0), .string (str A0), .string (str B0), .string (str F0), .string (str T0)]] (.bool true) := by
  intro w tab
  have bel := Below.refl w.heap.size w
  cases PA with
  | false =>
    obtain rfl : UA = false := hU0.out rfl
    go_enter Tryd.func7, Tryd.ntmps7
    go_wp2_with fail
    go_quiet ((go_at_call 8; (first | (with_reducible exact Calls.quiet_of_same (G0 _)) | (with_reducible exact Calls.quiet_of_same (G1 _)) | (with_reducible exact Calls.quiet_of_same (G2 _)) | (with_reducible exact Calls.quiet_of_same (G3 _)) | (with_reducible exact Calls.quiet_of_same (G4 _)))))
    obtain ⟨v, hv⟩ : ∃ v, v = World.drewN (w.alloc (.cells #[.string (str K0), .string (str A0), .string (str B0), .string (str F0), .string (str T0)] 37)) nq := ⟨_, rfl⟩
    have g2 : Below w.heap.size w v := by rw [hv]; exact below_drewN ((Below.refl _ _).alloc (Nat.le_refl _) _)
    rw [← hv]
    have tab := tab.below g2
    have bel := g2
    clear hv g2
    go_wp2_with (first | ((with_reducible refine (RG.at _ tab).mono ?_); rintro e w' ⟨rfl, g⟩; have tab := tab.below g; have bel := chain bel g; clear g) | ((with_reducible refine (KI.at _ tab).mono ?_); rintro e w' ⟨rfl, g⟩; have tab := tab.below g; have bel := chain bel g; clear g) | ((with_reducible refine (U1.at _ tab).mono ?_); rintro e w' ⟨rfl, g⟩; have tab := tab.below g; have bel := chain bel g; clear g) | ((with_reducible refine (U2.at _ tab).mono ?_); rintro e w' ⟨rfl, g⟩; have tab := tab.below g; have bel := chain bel g; clear g) | ((with_reducible refine (MM.at _ tab).mono ?_); rintro e w' ⟨rfl, g⟩; have tab := tab.below g; have bel := chain bel g; clear g) | ((with_reducible refine (II.at _ tab).mono ?_); rintro e w' ⟨rfl, g⟩; have tab := tab.below g; have bel := chain bel g; clear g) | ((with_reducible refine (OO.at _ tab).mono ?_); rintro e w' ⟨rfl, g⟩; have tab := tab.below g; have bel := chain bel g; clear g) | ((with_reducible refine (AW.at _ tab).mono ?_); rintro e w' ⟨rfl, g⟩; have tab := tab.below g; have bel := chain bel g; clear g))
    go_ret
    exact ⟨rfl, bel⟩
  | true =>
    cases BK with
    | false =>
      obtain rfl : UA = false := hU0.out rfl
      go_enter Tryd.func7, Tryd.ntmps7
      go_wp2_with fail
      go_quiet ((go_at_call 8; (first | (with_reducible exact Calls.quiet_of_same (G0 _)) | (with_reducible exact Calls.quiet_of_same (G1 _)) | (with_reducible exact Calls.quiet_of_same (G2 _)) | (with_reducible exact Calls.quiet_of_same (G3 _)) | (with_reducible exact Calls.quiet_of_same (G4 _)))))
      obtain ⟨v, hv⟩ : ∃ v, v = World.drewN (w.alloc (.cells #[.string (str K0), .string (str A0), .string (str B0), .string (str F0), .string (str T0)] 37)) nq := ⟨_, rfl⟩
      have g2 : Below w.heap.size w v := by rw [hv]; exact below_drewN ((Below.refl _ _).alloc (Nat.le_refl _) _)
      rw [← hv]
      have tab := tab.below g2
      have bel := g2
      clear hv g2
      go_wp2_with (first | ((with_reducible refine (RG.at _ tab).mono ?_); rintro e w' ⟨rfl, g⟩; have tab := tab.below g; have bel := chain bel g; clear g) | ((with_reducible refine (KI.at _ tab).mono ?_); rintro e w' ⟨rfl, g⟩; have tab := tab.below g; have bel := chain bel g; clear g) | ((with_reducible refine (U1.at _ tab).mono ?_); rintro e w' ⟨rfl, g⟩; have tab := tab.below g; have bel := chain bel g; clear g) | ((with_reducible refine (U2.at _ tab).mono ?_); rintro e w' ⟨rfl, g⟩; have tab := tab.below g; have bel := chain bel g; clear g) | ((with_reducible refine (MM.at _ tab).mono ?_); rintro e w' ⟨rfl, g⟩; have tab := tab.below g; have bel := chain bel g; clear g) | ((with_reducible refine (II.at _ tab).mono ?_); rintro e w' ⟨rfl, g⟩; have tab := tab.below g; have bel := chain bel g; clear g) | ((with_reducible refine (OO.at _ tab).mono ?_); rintro e w' ⟨rfl, g⟩; have tab := tab.below g; have bel := chain bel g; clear g) | ((with_reducible refine (AW.at _ tab).mono ?_); rintro e w' ⟨rfl, g⟩; have tab := tab.below g; have bel := chain bel g; clear g))
      go_ret
      exact ⟨rfl, bel⟩
    | true =>
      cases L with
      | false =>
        cases E with
        | false =>
          cases M with
          | false =>
            obtain rfl : UA = false := hU1.out rfl rfl
            go_enter Tryd.func7, Tryd.ntmps7
            go_wp2_with fail
            go_quiet ((go_at_call 8; (first | (with_reducible exact Calls.quiet_of_same (G0 _)) | (with_reducible exact Calls.quiet_of_same (G1 _)) | (with_reducible exact Calls.quiet_of_same (G2 _)) | (with_reducible exact Calls.quiet_of_same (G3 _)) | (with_reducible exact Calls.quiet_of_same (G4 _)))))
            obtain ⟨v, hv⟩ : ∃ v, v = World.drewN (w.alloc (.cells #[.string (str K0), .string (str A0), .string (str B0), .string (str F0), .string (str T0)] 37)) nq := ⟨_, rfl⟩
            have g2 : Below w.heap.size w v := by rw [hv]; exact below_drewN ((Below.refl _ _).alloc (Nat.le_refl _) _)
            rw [← hv]
            have tab := tab.below g2
            have bel := g2
            clear hv g2
            go_wp2_with (first | ((with_reducible refine (RG.at _ tab).mono ?_); rintro e w' ⟨rfl, g⟩; have tab := tab.below g; have bel := chain bel g; clear g) | ((with_reducible refine (KI.at _ tab).mono ?_); rintro e w' ⟨rfl, g⟩; have tab := tab.below g; have bel := chain bel g; clear g) | ((with_reducible refine (U1.at _ tab).mono ?_); rintro e w' ⟨rfl, g⟩; have tab := tab.below g; have bel := chain bel g; clear g) | ((with_reducible refine (U2.at _ tab).mono ?_); rintro e w' ⟨rfl, g⟩; have tab := tab.below g; have bel := chain bel g; clear g) | ((with_reducible refine (MM.at _ tab).mono ?_); rintro e w' ⟨rfl, g⟩; have tab := tab.below g; have bel := chain bel g; clear g) | ((with_reducible refine (II.at _ tab).mono ?_); rintro e w' ⟨rfl, g⟩; have tab := tab.below g; have bel := chain bel g; clear g) | ((with_reducible refine (OO.at _ tab).mono ?_); rintro e w' ⟨rfl, g⟩; have tab := tab.below g; have bel := chain bel g; clear g) | ((with_reducible refine (AW.at _ tab).mono ?_); rintro e w' ⟨rfl, g⟩; have tab := tab.below g; have bel := chain bel g; clear g))
            go_ret
            exact ⟨rfl, bel⟩
          | true =>
            obtain rfl : UA = true := hU1.out rfl rfl
            cases UB with
            | false =>
              cases IN with
              | false =>
                go_enter Tryd.func7, Tryd.ntmps7
                go_wp2_with fail
                go_quiet ((go_at_call 8; (first | (with_reducible exact Calls.quiet_of_same (G0 _)) | (with_reducible exact Calls.quiet_of_same (G1 _)) | (with_reducible exact Calls.quiet_of_same (G2 _)) | (with_reducible exact Calls.quiet_of_same (G3 _)) | (with_reducible exact Calls.quiet_of_same (G4 _)))))
                obtain ⟨v, hv⟩ : ∃ v, v = World.drewN (w.alloc (.cells #[.string (str K0), .string (str A0), .string (str B0), .string (str F0), .string (str T0)] 37)) nq := ⟨_, rfl⟩
                have g2 : Below w.heap.size w v := by rw [hv]; exact below_drewN ((Below.refl _ _).alloc (Nat.le_refl _) _)
                rw [← hv]
                have tab := tab.below g2
                have bel := g2
                clear hv g2
                go_wp2_with (first | ((with_reducible refine (RG.at _ tab).mono ?_); rintro e w' ⟨rfl, g⟩; have tab := tab.below g; have bel := chain bel g; clear g) | ((with_reducible refine (KI.at _ tab).mono ?_); rintro e w' ⟨rfl, g⟩; have tab := tab.below g; have bel := chain bel g; clear g) | ((with_reducible refine (U1.at _ tab).mono ?_); rintro e w' ⟨rfl, g⟩; have tab := tab.below g; have bel := chain bel g; clear g) | ((with_reducible refine (U2.at _ tab).mono ?_); rintro e w' ⟨rfl, g⟩; have tab := tab.below g; have bel := chain bel g; clear g) | ((with_reducible refine (MM.at _ tab).mono ?_); rintro e w' ⟨rfl, g⟩; have tab := tab.below g; have bel := chain bel g; clear g) | ((with_reducible refine (II.at _ tab).mono ?_); rintro e w' ⟨rfl, g⟩; have tab := tab.below g; have bel := chain bel g; clear g) | ((with_reducible refine (OO.at _ tab).mono ?_); rintro e w' ⟨rfl, g⟩; have tab := tab.below g; have bel := chain bel g; clear g) | ((with_reducible refine (AW.at _ tab).mono ?_); rintro e w' ⟨rfl, g⟩; have tab := tab.below g; have bel := chain bel g; clear g))
                go_ret
                exact ⟨rfl, bel⟩
              | true =>
                obtain rfl : OV = true := hO.out rfl rfl
                go_enter Tryd.func7, Tryd.ntmps7
                go_wp2_with fail
                go_quiet ((go_at_call 8; (first | (with_reducible exact Calls.quiet_of_same (G0 _)) | (with_reducible exact Calls.quiet_of_same (G1 _)) | (with_reducible exact Calls.quiet_of_same (G2 _)) | (with_reducible exact Calls.quiet_of_same (G3 _)) | (with_reducible exact Calls.quiet_of_same (G4 _)))))
                obtain ⟨v, hv⟩ : ∃ v, v = World.drewN (w.alloc (.cells #[.string (str K0), .string (str A0), .string (str B0), .string (str F0), .string (str T0)] 37)) nq := ⟨_, rfl⟩
                have g2 : Below w.heap.size w v := by rw [hv]; exact below_drewN ((Below.refl _ _).alloc (Nat.le_refl _) _)
                rw [← hv]
                have tab := tab.below g2
                have bel := g2
                clear hv g2
                go_wp2_with (first | ((with_reducible refine (RG.at _ tab).mono ?_); rintro e w' ⟨rfl, g⟩; have tab := tab.below g; have bel := chain bel g; clear g) | ((with_reducible refine (KI.at _ tab).mono ?_); rintro e w' ⟨rfl, g⟩; have tab := tab.below g; have bel := chain bel g; clear g) | ((with_reducible refine (U1.at _ tab).mono ?_); rintro e w' ⟨rfl, g⟩; have tab := tab.below g; have bel := chain bel g; clear g) | ((with_reducible refine (U2.at _ tab).mono ?_); rintro e w' ⟨rfl, g⟩; have tab := tab.below g; have bel := chain bel g; clear g) | ((with_reducible refine (MM.at _ tab).mono ?_); rintro e w' ⟨rfl, g⟩; have tab := tab.below g; have bel := chain bel g; clear g) | ((with_reducible refine (II.at _ tab).mono ?_); rintro e w' ⟨rfl, g⟩; have tab := tab.below g; have bel := chain bel g; clear g) | ((with_reducible refine (OO.at _ tab).mono ?_); rintro e w' ⟨rfl, g⟩; have tab := tab.below g; have bel := chain bel g; clear g) | ((with_reducible refine (AW.at _ tab).mono ?_); rintro e w' ⟨rfl, g⟩; have tab := tab.below g; have bel := chain bel g; clear g))
                go_ret
                exact ⟨rfl, bel⟩
            | true =>
              obtain rfl : MT = true := hM.out rfl rfl
              cases IN with
              | false =>
                go_enter Tryd.func7, Tryd.ntmps7
                go_wp2_with fail
                go_quiet ((go_at_call 8; (first | (with_reducible exact Calls.quiet_of_same (G0 _)) | (with_reducible exact Calls.quiet_of_same (G1 _)) | (with_reducible exact Calls.quiet_of_same (G2 _)) | (with_reducible exact Calls.quiet_of_same (G3 _)) | (with_reducible exact Calls.quiet_of_same (G4 _)))))
                obtain ⟨v, hv⟩ : ∃ v, v = World.drewN (w.alloc (.cells #[.string (str K0), .string (str A0), .string (str B0), .string (str F0), .string (str T0)] 37)) nq := ⟨_, rfl⟩
                have g2 : Below w.heap.size w v := by rw [hv]; exact below_drewN ((Below.refl _ _).alloc (Nat.le_refl _) _)
                rw [← hv]
                have tab := tab.below g2
                have bel := g2
                clear hv g2
                go_wp2_with (first | ((with_reducible refine (RG.at _ tab).mono ?_); rintro e w' ⟨rfl, g⟩; have tab := tab.below g; have bel := chain bel g; clear g) | ((with_reducible refine (KI.at _ tab).mono ?_); rintro e w' ⟨rfl, g⟩; have tab := tab.below g; have bel := chain bel g; clear g) | ((with_reducible refine (U1.at _ tab).mono ?_); rintro e w' ⟨rfl, g⟩; have tab := tab.below g; have bel := chain bel g; clear g) | ((with_reducible refine (U2.at _ tab).mono ?_); rintro e w' ⟨rfl, g⟩; have tab := tab.below g; have bel := chain bel g; clear g) | ((with_reducible refine (MM.at _ tab).mono ?_); rintro e w' ⟨rfl, g⟩; have tab := tab.below g; have bel := chain bel g; clear g) | ((with_reducible refine (II.at _ tab).mono ?_); rintro e w' ⟨rfl, g⟩; have tab := tab.below g; have bel := chain bel g; clear g) | ((with_reducible refine (OO.at _ tab).mono ?_); rintro e w' ⟨rfl, g⟩; have tab := tab.below g; have bel := chain bel g; clear g) | ((with_reducible refine (AW.at _ tab).mono ?_); rintro e w' ⟨rfl, g⟩; have tab := tab.below g; have bel := chain bel g; clear g))
                go_ret
                exact ⟨rfl, bel⟩
              | true =>
                obtain rfl : OV = true := hO.out rfl rfl
                go_enter Tryd.func7, Tryd.ntmps7
                go_wp2_with fail
                go_quiet ((go_at_call 8; (first | (with_reducible exact Calls.quiet_of_same (G0 _)) | (with_reducible exact Calls.quiet_of_same (G1 _)) | (with_reducible exact Calls.quiet_of_same (G2 _)) | (with_reducible exact Calls.quiet_of_same (G3 _)) | (with_reducible exact Calls.quiet_of_same (G4 _)))))
                obtain ⟨v, hv⟩ : ∃ v, v = World.drewN (w.alloc (.cells #[.string (str K0), .string (str A0), .string (str B0), .string (str F0), .string (str T0)] 37)) nq := ⟨_, rfl⟩
                have g2 : Below w.heap.size w v := by rw [hv]; exact below_drewN ((Below.refl _ _).alloc (Nat.le_refl _) _)
                rw [← hv]
                have tab := tab.below g2
                have bel := g2
                clear hv g2
                go_wp2_with (first | ((with_reducible refine (RG.at _ tab).mono ?_); rintro e w' ⟨rfl, g⟩; have tab := tab.below g; have bel := chain bel g; clear g) | ((with_reducible refine (KI.at _ tab).mono ?_); rintro e w' ⟨rfl, g⟩; have tab := tab.below g; have bel := chain bel g; clear g) | ((with_reducible refine (U1.at _ tab).mono ?_); rintro e w' ⟨rfl, g⟩; have tab := tab.below g; have bel := chain bel g; clear g) | ((with_reducible refine (U2.at _ tab).mono ?_); rintro e w' ⟨rfl, g⟩; have tab := tab.below g; have bel := chain bel g; clear g) | ((with_reducible refine (MM.at _ tab).mono ?_); rintro e w' ⟨rfl, g⟩; have tab := tab.below g; have bel := chain bel g; clear g) | ((with_reducible refine (II.at _ tab).mono ?_); rintro e w' ⟨rfl, g⟩; have tab := tab.below g; have bel := chain bel g; clear g) | ((with_reducible refine (OO.at _ tab).mono ?_); rintro e w' ⟨rfl, g⟩; have tab := tab.below g; have bel := chain bel g; clear g) | ((with_reducible refine (AW.at _ tab).mono ?_); rintro e w' ⟨rfl, g⟩; have tab := tab.below g; have bel := chain bel g; clear g))
                go_ret
                exact ⟨rfl, bel⟩
        | true =>
          obtain rfl : UA = true := hU1.out rfl rfl
          cases UB with
          | false =>
            cases IN with
            | false =>
              go_enter Tryd.func7, Tryd.ntmps7
              go_wp2_with fail
              go_quiet ((go_at_call 8; (first | (with_reducible exact Calls.quiet_of_same (G0 _)) | (with_reducible exact Calls.quiet_of_same (G1 _)) | (with_reducible exact Calls.quiet_of_same (G2 _)) | (with_reducible exact Calls.quiet_of_same (G3 _)) | (with_reducible exact Calls.quiet_of_same (G4 _)))))
              obtain ⟨v, hv⟩ : ∃ v, v = World.drewN (w.alloc (.cells #[.string (str K0), .string (str A0), .string (str B0), .string (str F0), .string (str T0)] 37)) nq := ⟨_, rfl⟩
              have g2 : Below w.heap.size w v := by rw [hv]; exact below_drewN ((Below.refl _ _).alloc (Nat.le_refl _) _)
              rw [← hv]
              have tab := tab.below g2
              have bel := g2
              clear hv g2
              go_wp2_with (first | ((with_reducible refine (RG.at _ tab).mono ?_); rintro e w' ⟨rfl, g⟩; have tab := tab.below g; have bel := chain bel g; clear g) | ((with_reducible refine (KI.at _ tab).mono ?_); rintro e w' ⟨rfl, g⟩; have tab := tab.below g; have bel := chain bel g; clear g) | ((with_reducible refine (U1.at _ tab).mono ?_); rintro e w' ⟨rfl, g⟩; have tab := tab.below g; have bel := chain bel g; clear g) | ((with_reducible refine (U2.at _ tab).mono ?_); rintro e w' ⟨rfl, g⟩; have tab := tab.below g; have bel := chain bel g; clear g) | ((with_reducible refine (MM.at _ tab).mono ?_); rintro e w' ⟨rfl, g⟩; have tab := tab.below g; have bel := chain bel g; clear g) | ((with_reducible refine (II.at _ tab).mono ?_); rintro e w' ⟨rfl, g⟩; have tab := tab.below g; have bel := chain bel g; clear g) | ((with_reducible refine (OO.at _ tab).mono ?_); rintro e w' ⟨rfl, g⟩; have tab := tab.below g; have bel := chain bel g; clear g) | ((with_reducible refine (AW.at _ tab).mono ?_); rintro e w' ⟨rfl, g⟩; have tab := tab.below g; have bel := chain bel g; clear g))
              go_ret
              exact ⟨rfl, bel⟩
            | true =>
              obtain rfl : OV = true := hO.out rfl rfl
              go_enter Tryd.func7, Tryd.ntmps7
              go_wp2_with fail
              go_quiet ((go_at_call 8; (first | (with_reducible exact Calls.quiet_of_same (G0 _)) | (with_reducible exact Calls.quiet_of_same (G1 _)) | (with_reducible exact Calls.quiet_of_same (G2 _)) | (with_reducible exact Calls.quiet_of_same (G3 _)) | (with_reducible exact Calls.quiet_of_same (G4 _)))))
              obtain ⟨v, hv⟩ : ∃ v, v = World.drewN (w.alloc (.cells #[.string (str K0), .string (str A0), .string (str B0), .string (str F0), .string (str T0)] 37)) nq := ⟨_, rfl⟩
              have g2 : Below w.heap.size w v := by rw [hv]; exact below_drewN ((Below.refl _ _).alloc (Nat.le_refl _) _)
              rw [← hv]
              have tab := tab.below g2
              have bel := g2
              clear hv g2
              go_wp2_with (first | ((with_reducible refine (RG.at _ tab).mono ?_); rintro e w' ⟨rfl, g⟩; have tab := tab.below g; have bel := chain bel g; clear g) | ((with_reducible refine (KI.at _ tab).mono ?_); rintro e w' ⟨rfl, g⟩; have tab := tab.below g; have bel := chain bel g; clear g) | ((with_reducible refine (U1.at _ tab).mono ?_); rintro e w' ⟨rfl, g⟩; have tab := tab.below g; have bel := chain bel g; clear g) | ((with_reducible refine (U2.at _ tab).mono ?_); rintro e w' ⟨rfl, g⟩; have tab := tab.below g; have bel := chain bel g; clear g) | ((with_reducible refine (MM.at _ tab).mono ?_); rintro e w' ⟨rfl, g⟩; have tab := tab.below g; have bel := chain bel g; clear g) | ((with_reducible refine (II.at _ tab).mono ?_); rintro e w' ⟨rfl, g⟩; have tab := tab.below g; have bel := chain bel g; clear g) | ((with_reducible refine (OO.at _ tab).mono ?_); rintro e w' ⟨rfl, g⟩; have tab := tab.below g; have bel := chain bel g; clear g) | ((with_reducible refine (AW.at _ tab).mono ?_); rintro e w' ⟨rfl, g⟩; have tab := tab.below g; have bel := chain bel g; clear g))
              go_ret
              exact ⟨rfl, bel⟩
          | true =>
            obtain rfl : MT = true := hM.out rfl rfl
            cases IN with
            | false =>
              go_enter Tryd.func7, Tryd.ntmps7
              go_wp2_with fail
              go_quiet ((go_at_call 8; (first | (with_reducible exact Calls.quiet_of_same (G0 _)) | (with_reducible exact Calls.quiet_of_same (G1 _)) | (with_reducible exact Calls.quiet_of_same (G2 _)) | (with_reducible exact Calls.quiet_of_same (G3 _)) | (with_reducible exact Calls.quiet_of_same (G4 _)))))
              obtain ⟨v, hv⟩ : ∃ v, v = World.drewN (w.alloc (.cells #[.string (str K0), .string (str A0), .string (str B0), .string (str F0), .string (str T0)] 37)) nq := ⟨_, rfl⟩
              have g2 : Below w.heap.size w v := by rw [hv]; exact below_drewN ((Below.refl _ _).alloc (Nat.le_refl _) _)
              rw [← hv]
              have tab := tab.below g2
              have bel := g2
              clear hv g2
              go_wp2_with (first | ((with_reducible refine (RG.at _ tab).mono ?_); rintro e w' ⟨rfl, g⟩; have tab := tab.below g; have bel := chain bel g; clear g) | ((with_reducible refine (KI.at _ tab).mono ?_); rintro e w' ⟨rfl, g⟩; have tab := tab.below g; have bel := chain bel g; clear g) | ((with_reducible refine (U1.at _ tab).mono ?_); rintro e w' ⟨rfl, g⟩; have tab := tab.below g; have bel := chain bel g; clear g) | ((with_reducible refine (U2.at _ tab).mono ?_); rintro e w' ⟨rfl, g⟩; have tab := tab.below g; have bel := chain bel g; clear g) | ((with_reducible refine (MM.at _ tab).mono ?_); rintro e w' ⟨rfl, g⟩; have tab := tab.below g; have bel := chain bel g; clear g) | ((with_reducible refine (II.at _ tab).mono ?_); rintro e w' ⟨rfl, g⟩; have tab := tab.below g; have bel := chain bel g; clear g) | ((with_reducible refine (OO.at _ tab).mono ?_); rintro e w' ⟨rfl, g⟩; have tab := tab.below g; have bel := chain bel g; clear g) | ((with_reducible refine (AW.at _ tab).mono ?_); rintro e w' ⟨rfl, g⟩; have tab := tab.below g; have bel := chain bel g; clear g))
              go_ret
              exact ⟨rfl, bel⟩
            | true =>
              obtain rfl : OV = true := hO.out rfl rfl
              go_enter Tryd.func7, Tryd.ntmps7
              go_wp2_with fail
              go_quiet ((go_at_call 8; (first | (with_reducible exact Calls.quiet_of_same (G0 _)) | (with_reducible exact Calls.quiet_of_same (G1 _)) | (with_reducible exact Calls.quiet_of_same (G2 _)) | (with_reducible exact Calls.quiet_of_same (G3 _)) | (with_reducible exact Calls.quiet_of_same (G4 _)))))
              obtain ⟨v, hv⟩ : ∃ v, v = World.drewN (w.alloc (.cells #[.string (str K0), .string (str A0), .string (str B0), .string (str F0), .string (str T0)] 37)) nq := ⟨_, rfl⟩
              have g2 : Below w.heap.size w v := by rw [hv]; exact below_drewN ((Below.refl _ _).alloc (Nat.le_refl _) _)
              rw [← hv]
              have tab := tab.below g2
              have bel := g2
              clear hv g2
              go_wp2_with (first | ((with_reducible refine (RG.at _ tab).mono ?_); rintro e w' ⟨rfl, g⟩; have tab := tab.below g; have bel := chain bel g; clear g) | ((with_reducible refine (KI.at _ tab).mono ?_); rintro e w' ⟨rfl, g⟩; have tab := tab.below g; have bel := chain bel g; clear g) | ((with_reducible refine (U1.at _ tab).mono ?_); rintro e w' ⟨rfl, g⟩; have tab := tab.below g; have bel := chain bel g; clear g) | ((with_reducible refine (U2.at _ tab).mono ?_); rintro e w' ⟨rfl, g⟩; have tab := tab.below g; have bel := chain bel g; clear g) | ((with_reducible refine (MM.at _ tab).mono ?_); rintro e w' ⟨rfl, g⟩; have tab := tab.below g; have bel := chain bel g; clear g) | ((with_reducible refine (II.at _ tab).mono ?_); rintro e w' ⟨rfl, g⟩; have tab := tab.below g; have bel := chain bel g; clear g) | ((with_reducible refine (OO.at _ tab).mono ?_); rintro e w' ⟨rfl, g⟩; have tab := tab.below g; have bel := chain bel g; clear g) | ((with_reducible refine (AW.at _ tab).mono ?_); rintro e w' ⟨rfl, g⟩; have tab := tab.below g; have bel := chain bel g; clear g))
              go_ret
              exact ⟨rfl, bel⟩
      | true =>
        obtain rfl : UA = false := hU1.out rfl rfl
        go_enter Tryd.func7, Tryd.ntmps7
        go_wp2_with fail
        go_quiet ((go_at_call 8; (first | (with_reducible exact Calls.quiet_of_same (G0 _)) | (with_reducible exact Calls.quiet_of_same (G1 _)) | (with_reducible exact Calls.quiet_of_same (G2 _)) | (with_reducible exact Calls.quiet_of_same (G3 _)) | (with_reducible exact Calls.quiet_of_same (G4 _)))))
        obtain ⟨v, hv⟩ : ∃ v, v = World.drewN (w.alloc (.cells #[.string (str K0), .string (str A0), .string (str B0), .string (str F0), .string (str T0)] 37)) nq := ⟨_, rfl⟩
        have g2 : Below w.heap.size w v := by rw [hv]; exact below_drewN ((Below.refl _ _).alloc (Nat.le_refl _) _)
        rw [← hv]
        have tab := tab.below g2
        have bel := g2
        clear hv g2
        go_wp2_with (first | ((with_reducible refine (RG.at _ tab).mono ?_); rintro e w' ⟨rfl, g⟩; have tab := tab.below g; have bel := chain bel g; clear g) | ((with_reducible refine (KI.at _ tab).mono ?_); rintro e w' ⟨rfl, g⟩; have tab := tab.below g; have bel := chain bel g; clear g) | ((with_reducible refine (U1.at _ tab).mono ?_); rintro e w' ⟨rfl, g⟩; have tab := tab.below g; have bel := chain bel g; clear g) | ((with_reducible refine (U2.at _ tab).mono ?_); rintro e w' ⟨rfl, g⟩; have tab := tab.below g; have bel := chain bel g; clear g) | ((with_reducible refine (MM.at _ tab).mono ?_); rintro e w' ⟨rfl, g⟩; have tab := tab.below g; have bel := chain bel g; clear g) | ((with_reducible refine (II.at _ tab).mono ?_); rintro e w' ⟨rfl, g⟩; have tab := tab.below g; have bel := chain bel g; clear g) | ((with_reducible refine (OO.at _ tab).mono ?_); rintro e w' ⟨rfl, g⟩; have tab := tab.below g; have bel := chain bel g; clear g) | ((with_reducible refine (AW.at _ tab).mono ?_); rintro e w' ⟨rfl, g⟩; have tab := tab.below g; have bel := chain bel g; clear g))
        go_ret
        exact ⟨rfl, bel⟩
theorem patB_all {l : List UInt8} (h : patB l = true) : l.all okc = true := by
  unfold patB at h
  simp only [Bool.and_eq_true] at h
  exact h.2
theorem isB_pat {l : List UInt8} (h : isB l = true) : patB l = true := by
  unfold isB at h
  simp only [Bool.and_eq_true] at h
  exact h.2
theorem endL_nil {l : List UInt8} : endL l = [] ↔ l = [] := by
  constructor
  · intro h
    have := endL_len l
    rw [h] at this
    exact List.eq_nil_of_length_eq_zero this.symm
  · rintro rfl; rfl
/-- A key is under a pattern just if it is in its range. -/
theorem range_prefix {k a : List UInt8} (hk : isB k = true) (ha : patB a = true) : (!ltB k a && (decide (endL a = []) || ltB k (endL a))) = Lib.hasPrefix k a := by
  by_cases h : a = []
  · subst h
    rw [lt_nil]
    simp [endL_nil, Lib.hasPrefix]
  · have h2 : ¬ endL a = [] := fun e => h (endL_nil.1 e)
    have := end_prefix a k h (patB_all ha) (patB_all (isB_pat hk))
    simp only [h2, decide_false, Bool.false_or]
    exact this
theorem meets_of {k a b : List UInt8} (h1 : Lib.hasPrefix k a = true) (h2 : Lib.hasPrefix k b = true) : (Lib.hasPrefix a b || Lib.hasPrefix b a) = true := by
  have p1 : a <+: k := by simpa [Lib.hasPrefix] using h1
  have p2 : b <+: k := by simpa [Lib.hasPrefix] using h2
  rcases List.prefix_or_prefix_of_prefix p1 p2 with h | h
  · have : Lib.hasPrefix b a = true := by simpa [Lib.hasPrefix] using h
    rw [this, Bool.or_true]
  · have : Lib.hasPrefix a b = true := by simpa [Lib.hasPrefix] using h
    rw [this, Bool.true_or]
theorem over_of {k a f t : List UInt8} (hU : (isB k && patB a && Lib.hasPrefix k a) = true) (hI : (isB k && patB f && patB t && !ltB k f && (decide (t = []) || ltB k t)) = true) : overB f t a = true := by
  simp only [Bool.and_eq_true] at hU hI
  obtain ⟨⟨hk, ha⟩, hp⟩ := hU
  obtain ⟨⟨⟨⟨_, hf⟩, ht⟩, hkf⟩, hkt⟩ := hI
  have hr := range_prefix hk ha
  rw [hp] at hr
  simp only [Bool.and_eq_true, Bool.not_eq_true'] at hr hkf
  obtain ⟨hka, he⟩ := hr
  unfold overB
  rw [hf, ha, show stopB t = true by unfold stopB; rw [ht]; rfl]
  simp only [Bool.true_and, Bool.and_eq_true, Bool.or_eq_true, decide_eq_true_eq] at he hkt ⊢
  constructor
  · rcases he with h | h
    · exact .inl h
    · exact .inr (le_lt hkf h)
  · rcases hkt with h | h
    · exact .inl h
    · exact .inr (le_lt hka h)
theorem few_same (l : List UInt8) (hl : l.length ≤ maxLen) (w : World) : Calls Tryd.prog 8 #[.string (str l)] w fun e w' => e = .returned (.string (str (l.take 60))) ∧ w' = w := by
  unfold maxLen at hl
  have h1 : (str l).size = l.length := str_size l
  by_cases h : 60 < l.length
  · have hx : (str l).extract 0 60 = str (l.take 60) := by rw [str_extract]; simp
    go_enter Tryd.func8, Tryd.ntmps8
    go_wp2_with fail
    go_ret
    exact ⟨ret_str rfl, rfl⟩
  · rw [List.take_of_length_le (by omega)]
    go_enter Tryd.func8, Tryd.ntmps8
    go_wp2_with fail
    go_ret
    exact ⟨rfl, rfl⟩
theorem under_row (K0 A0 B0 F0 T0 : List UInt8) (w : World) (h0 : K0.length ≤ maxLen) (h1 : A0.length ≤ maxLen) (h2 : B0.length ≤ maxLen) (h3 : F0.length ≤ maxLen) (h4 : T0.length ≤ maxLen) (tab : TabAt w) :
    Calls Tryd.prog 7 #[.agg #[.string (str K0), .string (str A0), .string (str B0), .string (str F0), .string (str T0)]] w fun e w' => e = .returned (.bool true) ∧ Below w.heap.size w w' := by
  have tm : ∀ l : List UInt8, l.length ≤ maxLen → (l.take 60).length ≤ maxLen := fun l h => Nat.le_trans (List.length_take_le' _ _) h
  have G0 := fun w => few_same K0 h0 w
  have G1 := fun w => few_same A0 h1 w
  have G2 := fun w => few_same B0 h2 w
  have G3 := fun w => few_same F0 h3 w
  have G4 := fun w => few_same T0 h4 w
  have hk := tm K0 h0
  have ha := tm A0 h1
  have hb := tm B0 h2
  have hf := tm F0 h3
  have ht := tm T0 h4
  generalize K0.take 60 = k at *
  generalize A0.take 60 = a at *
  generalize B0.take 60 = b at *
  generalize F0.take 60 = f at *
  generalize T0.take 60 = t at *
  have RG : Ret 20 #[.string (str a)] (.tuple (bif patB a then #[.string (str a), .string (str (endL a)), .int .i64 0] else #[.string (ByteArray.mk #[]), .string (ByteArray.mk #[]), .int .i64 3])) := by
    refine ret_cast (range_any _ ha) ?_
    cases patB a <;> rfl
  refine under_way K0 A0 B0 F0 T0 k a b f t (endL a) (patB a) (isB k) (ltB k a) (decide (endL a = [])) (ltB k (endL a)) _ _ _ _ _ RG (is_any k hk).ret (under_any k a hk ha) (under_any k b hk hb) (meet_any a b ha hb) (in_any k f t hk hf ht) (overlap_any f t a hf ht ha) awake_any (geq_str k a) (emp_eq _) (less_str _ _) G0 G1 G2 G3 G4 ?_ ?_ ?_ ?_ w tab
  · intro hp hi
    rw [range_prefix hi hp, hp, hi]; rfl
  · intro h
    cases hi : isB k
    · rfl
    · cases hp : patB a
      · rfl
      · rw [hi, hp] at h; cases h
  · intro hu1 hu2
    simp only [Bool.and_eq_true] at hu1 hu2
    rw [hu1.1.2, hu2.1.2, meets_of hu1.2 hu2.2]; rfl
  · intro hu hi
    exact over_of hu hi
end Go.Proofs.YtkcflkgfipfdfaaDoor

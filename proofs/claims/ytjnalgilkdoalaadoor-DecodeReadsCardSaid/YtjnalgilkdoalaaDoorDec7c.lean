/- What rows come to in the reference: c. Conditions: named at each. -/
import Derived.Test.YtjnalgilkdoalaaDoorDec7a
import Derived.Test.YtjnalgilkdoalaaDoorDec7b
namespace Go.Proofs.YtjnalgilkdoalaaDoor
open Go.RowKit
set_option linter.unusedSimpArgs false

theorem ramo_any (x : BitVec 32) (w : World) :
    Calls Tryd.prog 86 #[.int .i64 (fi x 14 12), .int .i64 (fi x 31 27), .int .i64 (fi x 11 7), .int .i64 (fi x 19 15), .int .i64 (fi x 24 20)] w fun e w' => PartOf e (amoOf x) ∧ On w w' := by
  rcases f3_cases x with h3 | h3 | h3 | h3 | h3 | h3 | h3 | h3
  · by_cases n2 : fi x 31 27 = 2
    · by_cases h2 : fi x 24 20 = 0
      · exact ramo_0_2z x w h3 n2 h2
      · exact ramo_0_2n x w h3 n2 (Lib.hid h2)
    by_cases n3 : fi x 31 27 = 3
    · exact ramo_0_3 x w h3 n3
    by_cases n0 : fi x 31 27 = 0
    · exact ramo_0_0 x w h3 n0
    by_cases n1 : fi x 31 27 = 1
    · exact ramo_0_1 x w h3 n1
    by_cases n4 : fi x 31 27 = 4
    · exact ramo_0_4 x w h3 n4
    by_cases n8 : fi x 31 27 = 8
    · exact ramo_0_8 x w h3 n8
    by_cases n12 : fi x 31 27 = 12
    · exact ramo_0_12 x w h3 n12
    by_cases n16 : fi x 31 27 = 16
    · exact ramo_0_16 x w h3 n16
    by_cases n20 : fi x 31 27 = 20
    · exact ramo_0_20 x w h3 n20
    by_cases n24 : fi x 31 27 = 24
    · exact ramo_0_24 x w h3 n24
    by_cases n28 : fi x 31 27 = 28
    · exact ramo_0_28 x w h3 n28
    exact ramo_0_n x w h3 (Lib.hid ⟨n2, n3, n0, n1, n4, n8, n12, n16, n20, n24, n28⟩)
  · by_cases n2 : fi x 31 27 = 2
    · by_cases h2 : fi x 24 20 = 0
      · exact ramo_1_2z x w h3 n2 h2
      · exact ramo_1_2n x w h3 n2 (Lib.hid h2)
    by_cases n3 : fi x 31 27 = 3
    · exact ramo_1_3 x w h3 n3
    by_cases n0 : fi x 31 27 = 0
    · exact ramo_1_0 x w h3 n0
    by_cases n1 : fi x 31 27 = 1
    · exact ramo_1_1 x w h3 n1
    by_cases n4 : fi x 31 27 = 4
    · exact ramo_1_4 x w h3 n4
    by_cases n8 : fi x 31 27 = 8
    · exact ramo_1_8 x w h3 n8
    by_cases n12 : fi x 31 27 = 12
    · exact ramo_1_12 x w h3 n12
    by_cases n16 : fi x 31 27 = 16
    · exact ramo_1_16 x w h3 n16
    by_cases n20 : fi x 31 27 = 20
    · exact ramo_1_20 x w h3 n20
    by_cases n24 : fi x 31 27 = 24
    · exact ramo_1_24 x w h3 n24
    by_cases n28 : fi x 31 27 = 28
    · exact ramo_1_28 x w h3 n28
    exact ramo_1_n x w h3 (Lib.hid ⟨n2, n3, n0, n1, n4, n8, n12, n16, n20, n24, n28⟩)
  · by_cases n2 : fi x 31 27 = 2
    · by_cases h2 : fi x 24 20 = 0
      · exact ramo_2_2z x w h3 n2 h2
      · exact ramo_2_2n x w h3 n2 (Lib.hid h2)
    by_cases n3 : fi x 31 27 = 3
    · exact ramo_2_3 x w h3 n3
    by_cases n0 : fi x 31 27 = 0
    · exact ramo_2_0 x w h3 n0
    by_cases n1 : fi x 31 27 = 1
    · exact ramo_2_1 x w h3 n1
    by_cases n4 : fi x 31 27 = 4
    · exact ramo_2_4 x w h3 n4
    by_cases n8 : fi x 31 27 = 8
    · exact ramo_2_8 x w h3 n8
    by_cases n12 : fi x 31 27 = 12
    · exact ramo_2_12 x w h3 n12
    by_cases n16 : fi x 31 27 = 16
    · exact ramo_2_16 x w h3 n16
    by_cases n20 : fi x 31 27 = 20
    · exact ramo_2_20 x w h3 n20
    by_cases n24 : fi x 31 27 = 24
    · exact ramo_2_24 x w h3 n24
    by_cases n28 : fi x 31 27 = 28
    · exact ramo_2_28 x w h3 n28
    exact ramo_2_n x w h3 (Lib.hid ⟨n2, n3, n0, n1, n4, n8, n12, n16, n20, n24, n28⟩)
  · by_cases n2 : fi x 31 27 = 2
    · by_cases h2 : fi x 24 20 = 0
      · exact ramo_3_2z x w h3 n2 h2
      · exact ramo_3_2n x w h3 n2 (Lib.hid h2)
    by_cases n3 : fi x 31 27 = 3
    · exact ramo_3_3 x w h3 n3
    by_cases n0 : fi x 31 27 = 0
    · exact ramo_3_0 x w h3 n0
    by_cases n1 : fi x 31 27 = 1
    · exact ramo_3_1 x w h3 n1
    by_cases n4 : fi x 31 27 = 4
    · exact ramo_3_4 x w h3 n4
    by_cases n8 : fi x 31 27 = 8
    · exact ramo_3_8 x w h3 n8
    by_cases n12 : fi x 31 27 = 12
    · exact ramo_3_12 x w h3 n12
    by_cases n16 : fi x 31 27 = 16
    · exact ramo_3_16 x w h3 n16
    by_cases n20 : fi x 31 27 = 20
    · exact ramo_3_20 x w h3 n20
    by_cases n24 : fi x 31 27 = 24
    · exact ramo_3_24 x w h3 n24
    by_cases n28 : fi x 31 27 = 28
    · exact ramo_3_28 x w h3 n28
    exact ramo_3_n x w h3 (Lib.hid ⟨n2, n3, n0, n1, n4, n8, n12, n16, n20, n24, n28⟩)
  · by_cases n2 : fi x 31 27 = 2
    · by_cases h2 : fi x 24 20 = 0
      · exact ramo_4_2z x w h3 n2 h2
      · exact ramo_4_2n x w h3 n2 (Lib.hid h2)
    by_cases n3 : fi x 31 27 = 3
    · exact ramo_4_3 x w h3 n3
    by_cases n0 : fi x 31 27 = 0
    · exact ramo_4_0 x w h3 n0
    by_cases n1 : fi x 31 27 = 1
    · exact ramo_4_1 x w h3 n1
    by_cases n4 : fi x 31 27 = 4
    · exact ramo_4_4 x w h3 n4
    by_cases n8 : fi x 31 27 = 8
    · exact ramo_4_8 x w h3 n8
    by_cases n12 : fi x 31 27 = 12
    · exact ramo_4_12 x w h3 n12
    by_cases n16 : fi x 31 27 = 16
    · exact ramo_4_16 x w h3 n16
    by_cases n20 : fi x 31 27 = 20
    · exact ramo_4_20 x w h3 n20
    by_cases n24 : fi x 31 27 = 24
    · exact ramo_4_24 x w h3 n24
    by_cases n28 : fi x 31 27 = 28
    · exact ramo_4_28 x w h3 n28
    exact ramo_4_n x w h3 (Lib.hid ⟨n2, n3, n0, n1, n4, n8, n12, n16, n20, n24, n28⟩)
  · by_cases n2 : fi x 31 27 = 2
    · by_cases h2 : fi x 24 20 = 0
      · exact ramo_5_2z x w h3 n2 h2
      · exact ramo_5_2n x w h3 n2 (Lib.hid h2)
    by_cases n3 : fi x 31 27 = 3
    · exact ramo_5_3 x w h3 n3
    by_cases n0 : fi x 31 27 = 0
    · exact ramo_5_0 x w h3 n0
    by_cases n1 : fi x 31 27 = 1
    · exact ramo_5_1 x w h3 n1
    by_cases n4 : fi x 31 27 = 4
    · exact ramo_5_4 x w h3 n4
    by_cases n8 : fi x 31 27 = 8
    · exact ramo_5_8 x w h3 n8
    by_cases n12 : fi x 31 27 = 12
    · exact ramo_5_12 x w h3 n12
    by_cases n16 : fi x 31 27 = 16
    · exact ramo_5_16 x w h3 n16
    by_cases n20 : fi x 31 27 = 20
    · exact ramo_5_20 x w h3 n20
    by_cases n24 : fi x 31 27 = 24
    · exact ramo_5_24 x w h3 n24
    by_cases n28 : fi x 31 27 = 28
    · exact ramo_5_28 x w h3 n28
    exact ramo_5_n x w h3 (Lib.hid ⟨n2, n3, n0, n1, n4, n8, n12, n16, n20, n24, n28⟩)
  · by_cases n2 : fi x 31 27 = 2
    · by_cases h2 : fi x 24 20 = 0
      · exact ramo_6_2z x w h3 n2 h2
      · exact ramo_6_2n x w h3 n2 (Lib.hid h2)
    by_cases n3 : fi x 31 27 = 3
    · exact ramo_6_3 x w h3 n3
    by_cases n0 : fi x 31 27 = 0
    · exact ramo_6_0 x w h3 n0
    by_cases n1 : fi x 31 27 = 1
    · exact ramo_6_1 x w h3 n1
    by_cases n4 : fi x 31 27 = 4
    · exact ramo_6_4 x w h3 n4
    by_cases n8 : fi x 31 27 = 8
    · exact ramo_6_8 x w h3 n8
    by_cases n12 : fi x 31 27 = 12
    · exact ramo_6_12 x w h3 n12
    by_cases n16 : fi x 31 27 = 16
    · exact ramo_6_16 x w h3 n16
    by_cases n20 : fi x 31 27 = 20
    · exact ramo_6_20 x w h3 n20
    by_cases n24 : fi x 31 27 = 24
    · exact ramo_6_24 x w h3 n24
    by_cases n28 : fi x 31 27 = 28
    · exact ramo_6_28 x w h3 n28
    exact ramo_6_n x w h3 (Lib.hid ⟨n2, n3, n0, n1, n4, n8, n12, n16, n20, n24, n28⟩)
  · by_cases n2 : fi x 31 27 = 2
    · by_cases h2 : fi x 24 20 = 0
      · exact ramo_7_2z x w h3 n2 h2
      · exact ramo_7_2n x w h3 n2 (Lib.hid h2)
    by_cases n3 : fi x 31 27 = 3
    · exact ramo_7_3 x w h3 n3
    by_cases n0 : fi x 31 27 = 0
    · exact ramo_7_0 x w h3 n0
    by_cases n1 : fi x 31 27 = 1
    · exact ramo_7_1 x w h3 n1
    by_cases n4 : fi x 31 27 = 4
    · exact ramo_7_4 x w h3 n4
    by_cases n8 : fi x 31 27 = 8
    · exact ramo_7_8 x w h3 n8
    by_cases n12 : fi x 31 27 = 12
    · exact ramo_7_12 x w h3 n12
    by_cases n16 : fi x 31 27 = 16
    · exact ramo_7_16 x w h3 n16
    by_cases n20 : fi x 31 27 = 20
    · exact ramo_7_20 x w h3 n20
    by_cases n24 : fi x 31 27 = 24
    · exact ramo_7_24 x w h3 n24
    by_cases n28 : fi x 31 27 = 28
    · exact ramo_7_28 x w h3 n28
    exact ramo_7_n x w h3 (Lib.hid ⟨n2, n3, n0, n1, n4, n8, n12, n16, n20, n24, n28⟩)
end Go.Proofs.YtjnalgilkdoalaaDoor

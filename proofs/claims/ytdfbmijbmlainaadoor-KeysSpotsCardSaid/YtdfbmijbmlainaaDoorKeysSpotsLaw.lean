/-
  The law KeysSpots.
-/
import Derived.Test.YtdfbmijbmlainaaDoorKC

namespace Go.Proofs.YtdfbmijbmlainaaDoor
open Go.RowKit Go.Lib

set_option maxRecDepth 100000 in
set_option maxHeartbeats 6400000 in
theorem keysspots_walk (core : ByteArray) (w : World) (tab : Tab w) : Calls Tryd.prog 6 #[.string core] w fun e w' => e = .returned (.bool true) ∧ Kept w.heap.size w.heap.size w w' := by
  have HAW := Lib.hid (fun (x : World) (k : Kept w.heap.size w.heap.size w x) => keys_awake x (tab.onto11 k))
  by_cases hz : core.size ≤ 5000
  · have HS1 := Lib.hid (fun x => spot_calls11 core (by omega) x)
    have HS2 := Lib.hid (fun x => refspot_calls11 core (by omega) x)
    have hlt := Ky.spot_lt core.data.toList
    have hd : decide ((core.size : Int) > 5000) = false := decide_eq_false (by omega)
    generalize Ky.spot core.data.toList = sp at HS1 HS2 hlt
    have hd1 : decide ((sp : Int) ≥ 0) = true := decide_eq_true (by omega)
    have hd2 : decide ((sp : Int) < 4294967296) = true := decide_eq_true (by omega)
    clear hlt hz tab
    go_enter Tryd.func6, Tryd.ntmps6
    go_upto_region 3 with fail
    refine wp_region_lit ?_
    refine @BigFrame.wpList_want _ _ _ _ _ _ _ ?hw97045 ?_
    case hw97045 => kernel_rfl
    intro K hK
    go_simp
    refine hK _ _ ?_
    clear hK K
    refine @BigFrame.wpList_want _ _ _ _ _ _ _ ?hw97044 ?_
    case hw97044 => kernel_rfl
    intro K hK
    go_simp
    go_at_call 18
    refine (HS1.out _).mono ?_
    rintro e x1 ⟨rfl, X1⟩
    refine hK _ _ ?_
    clear hK K
    refine @BigFrame.wpList_want _ _ _ _ _ _ _ ?hw97046 ?_
    case hw97046 => kernel_rfl
    intro K hK
    go_simp
    refine hK _ _ ?_
    clear hK K
    go_upto_region 4 with fail
    refine wp_region_lit ?_
    refine @BigFrame.wpList_want _ _ _ _ _ _ _ ?hw97047 ?_
    case hw97047 => kernel_rfl
    intro K hK
    go_simp
    go_at_call 9
    refine (HAW.out _ X1).mono ?_
    rintro e x2 ⟨rfl, k2⟩
    have X2 := X1.onto k2
    refine hK _ _ ?_
    clear hK K
    refine @BigFrame.wpList_want _ _ _ _ _ _ _ ?hw97049 ?_
    case hw97049 => kernel_rfl
    intro K hK
    go_simp
    refine hK _ _ ?_
    clear hK K
    refine @BigFrame.wpList_want _ _ _ _ _ _ _ ?hw97050 ?_
    case hw97050 => kernel_rfl
    intro K hK
    go_simp
    refine hK _ _ ?_
    clear hK K
    refine @BigFrame.wpList_want _ _ _ _ _ _ _ ?hw97051 ?_
    case hw97051 => kernel_rfl
    intro K hK
    go_simp
    refine hK _ _ ?_
    clear hK K
    refine @BigFrame.wpList_want _ _ _ _ _ _ _ ?hw97048 ?_
    case hw97048 => kernel_rfl
    intro K hK
    go_simp
    go_at_call 19
    refine (HS2.out _).mono ?_
    rintro e x3 ⟨rfl, k3⟩
    have X3 := X2.onto k3
    refine hK _ _ ?_
    clear hK K
    refine @BigFrame.wpList_want _ _ _ _ _ _ _ ?hw97052 ?_
    case hw97052 => kernel_rfl
    intro K hK
    go_simp
    refine hK _ _ ?_
    clear hK K
    refine @BigFrame.wpList_want _ _ _ _ _ _ _ ?hw97053 ?_
    case hw97053 => kernel_rfl
    intro K hK
    go_simp
    refine hK _ _ ?_
    clear hK K
    refine @BigFrame.wpList_want _ _ _ _ _ _ _ ?hw97054 ?_
    case hw97054 => kernel_rfl
    intro K hK
    go_simp
    refine hK _ _ ?_
    clear hK K
    refine @BigFrame.wpList_want _ _ _ _ _ _ _ ?hw97055 ?_
    case hw97055 => kernel_rfl
    intro K hK
    go_simp
    refine hK _ _ ?_
    clear hK K
    refine @BigFrame.wpList_want _ _ _ _ _ _ _ ?hw97056 ?_
    case hw97056 => kernel_rfl
    intro K hK
    go_simp
    refine hK _ _ ?_
    clear hK K
    refine @BigFrame.wpList_want _ _ _ _ _ _ _ ?hw97057 ?_
    case hw97057 => kernel_rfl
    intro K hK
    go_simp
    refine hK _ _ ?_
    clear hK K
    refine @BigFrame.wpList_want _ _ _ _ _ _ _ ?hw97058 ?_
    case hw97058 => kernel_rfl
    intro K hK
    go_simp
    refine hK _ _ ?_
    clear hK K
    refine @BigFrame.wpList_want _ _ _ _ _ _ _ ?hw97059 ?_
    case hw97059 => kernel_rfl
    intro K hK
    go_simp
    refine hK _ _ ?_
    clear hK K
    refine @BigFrame.wpList_want _ _ _ _ _ _ _ ?hw97060 ?_
    case hw97060 => kernel_rfl
    intro K hK
    go_simp
    refine hK _ _ ?_
    clear hK K
    refine @BigFrame.wpList_want _ _ _ _ _ _ _ ?hw97061 ?_
    case hw97061 => kernel_rfl
    intro K hK
    go_simp
    refine hK _ _ ?_
    clear hK K
    refine @BigFrame.wpList_want _ _ _ _ _ _ _ ?hw97062 ?_
    case hw97062 => kernel_rfl
    intro K hK
    go_simp
    refine hK _ _ ?_
    clear hK K
    go_wp2
    go_ret
    exact ⟨rfl, X3⟩
  · have hd : decide ((core.size : Int) > 5000) = true := decide_eq_true (by omega)
    clear hz tab
    go_enter Tryd.func6, Tryd.ntmps6
    go_upto_region 2 with fail
    refine wp_region_lit ?_
    refine @BigFrame.wpList_want _ _ _ _ _ _ _ ?hw97042 ?_
    case hw97042 => kernel_rfl
    intro K hK
    go_simp
    go_at_call 9
    refine (HAW.out _ (Kept.refl _ _ _)).mono ?_
    rintro e x1 ⟨rfl, X1⟩
    refine hK _ _ ?_
    clear hK K
    refine @BigFrame.wpList_want _ _ _ _ _ _ _ ?hw97043 ?_
    case hw97043 => kernel_rfl
    intro K hK
    go_simp
    refine hK _ _ ?_
    clear hK K
    go_wp2
    go_ret
    exact ⟨rfl, X1⟩

end Go.Proofs.YtdfbmijbmlainaaDoor

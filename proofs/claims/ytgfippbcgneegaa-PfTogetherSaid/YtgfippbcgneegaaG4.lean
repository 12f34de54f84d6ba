import Derived.Test.YtgfippbcgneegaaG3
import Derived.Test.YtgfippbcgneegaaG2
import Derived.Test.YtgfippbcgneegaaG1
set_option linter.unusedVariables false
set_option linter.unusedSimpArgs false
namespace Go.Proofs.Ytgfippbcgneegaa
open Go.RowKit
def os5 (i o n t ph : Int) : List Int := [i, o, n, t, ph, 0, 0, 0]
def ad (x v : Int) : Int := (x + v) % 4294967296
section
variable {k : Nat} {mode task op line a b i o n t ph x : Int} {acc : Acc5} {ns : List Nt}
theorem os5_len : (os5 i o n t ph).length = 8 := rfl
theorem os5_0 : wordAt (clean (os5 i o n t ph) k) 0 = i := clean_own (i := 0) os5_len (by decide)
theorem os5_1 : wordAt (clean (os5 i o n t ph) k) 1 = o := clean_own (i := 1) os5_len (by decide)
theorem os5_2 : wordAt (clean (os5 i o n t ph) k) 2 = n := clean_own (i := 2) os5_len (by decide)
theorem os5_3 : wordAt (clean (os5 i o n t ph) k) 3 = t := clean_own (i := 3) os5_len (by decide)
theorem os5_4 : wordAt (clean (os5 i o n t ph) k) 4 = ph := clean_own (i := 4) os5_len (by decide)
theorem os5_l (c : Int) : doNew (clean (os5 i o n t ph) k) 1 c 0 0 = clean (os5 i o n t ph) k := doNew_load _ _ _ _
theorem os5_a0 : doNew (clean (os5 i o n t ph) k) 3 0 x 0 = clean (os5 (ad x i) o n t ph) k := clean_do (i := 0) os5_len (by decide) rfl x 0
theorem os5_a1 : doNew (clean (os5 i o n t ph) k) 3 1 x 0 = clean (os5 i (ad x o) n t ph) k := clean_do (i := 1) os5_len (by decide) rfl x 0
theorem os5_a2 : doNew (clean (os5 i o n t ph) k) 3 2 x 0 = clean (os5 i o (ad x n) t ph) k := clean_do (i := 2) os5_len (by decide) rfl x 0
theorem os5_a3 : doNew (clean (os5 i o n t ph) k) 3 3 x 0 = clean (os5 i o n (ad x t) ph) k := clean_do (i := 3) os5_len (by decide) rfl x 0
theorem os5_s4 : doNew (clean (os5 i o n t ph) k) 2 4 x 0 = clean (os5 i o n t x) k := clean_do (i := 4) os5_len (by decide) rfl x 0
theorem os5_c0 : doNew (clean (os5 i o n t ph) k) 5 0 i ((i + 256) % 4294967296) = clean (os5 (ad 256 i) o n t ph) k := by
  have e := clean_do (k := k) (i := 0) (os := os5 i o n t ph) os5_len (by decide) (kd := 5) rfl i ((i + 256) % 4294967296)
  rw [show leftOf 5 i ((i + 256) % 4294967296) ((os5 i o n t ph).getD 0 0) = ad 256 i by
    show (if i = i then (i + 256) % 4294967296 else i) = _
    rw [if_pos rfl, Int.add_comm]; rfl] at e
  exact e
theorem os5_c2 : doNew (clean (os5 i o n t ph) k) 5 2 n ((n + 1) % 4294967296) = clean (os5 i o (ad 1 n) t ph) k := by
  have e := clean_do (k := k) (i := 2) (os := os5 i o n t ph) os5_len (by decide) (kd := 5) rfl n ((n + 1) % 4294967296)
  rw [show leftOf 5 n ((n + 1) % 4294967296) ((os5 i o n t ph).getD 2 0) = ad 1 n by
    show (if n = n then (n + 1) % 4294967296 else n) = _
    rw [if_pos rfl, Int.add_comm]; rfl] at e
  exact e
theorem os5_th {c : Nat} (hc : c < 8) : there (clean (os5 i o n t ph) k) c = true := clean_there (i := c) os5_len (by omega)
theorem l_come (h : bitsI i = 0) : Nx LS.pf (mkR k mode task 1 0 a b wk0 0 (os5 i o n t ph) acc ns) k mode task 1 0 i b wk0 2 (os5 (ad 256 i) o n t ph) := by
  have hx : wordAt (mkR k mode task 1 0 a b wk0 0 (os5 i o n t ph) acc ns).fresh.xs 0 = i := os5_0
  refine Nx.mk (show _ = (mkR k mode task 1 0 a b wk0 0 (os5 i o n t ph) acc ns).fresh.pCome from rfl) ?_
  unfold LS.pCome
  rw [hx]
  rw [if_pos h]
  unfold mkR
  simp only [LS.doA, LS.keepA, LS.keepB, LS.note, LS.go, LS.fin, LS.wake, LS.fresh, os5_0, os5_1, os5_2, os5_3, os5_4, os5_l, os5_a0, os5_a1, os5_a2, os5_a3, os5_s4, os5_c0, os5_c2]
  first | done | rfl
theorem l_depart : Nx LS.pf (mkR k mode task 2 0 a b wk0 0 (os5 i o n t ph) acc ns) k mode task 2 0 a b (beginI mode 1) 2 (os5 i (ad 256 o) n t ph) := by
  refine Nx.mk (show _ = (mkR k mode task 2 0 a b wk0 0 (os5 i o n t ph) acc ns).fresh.pDepart from rfl) ?_
  unfold mkR LS.pDepart
  simp only [LS.doA, LS.keepA, LS.keepB, LS.note, LS.go, LS.fin, LS.wake, LS.fresh, os5_0, os5_1, os5_2, os5_3, os5_4, os5_l, os5_a0, os5_a1, os5_a2, os5_a3, os5_s4, os5_c0, os5_c2]
  first | done | rfl
theorem l_draw : Nx LS.pf (mkR k mode task 3 0 a b wk0 0 (os5 i o n t ph) acc ns) k mode task 3 1 n b wk0 0 (os5 i o (ad 1 n) t ph) := by
  refine Nx.mk (show _ = (mkR k mode task 3 0 a b wk0 0 (os5 i o n t ph) acc ns).fresh.pDraw from rfl) ?_
  unfold mkR LS.pDraw
  simp only [LS.doA, LS.keepA, LS.keepB, LS.note, LS.go, LS.fin, LS.wake, LS.fresh, os5_0, os5_1, os5_2, os5_3, os5_4, os5_l, os5_a0, os5_a1, os5_a2, os5_a3, os5_s4, os5_c0, os5_c2]
  first | done | rfl
theorem l_keep3 : Nx LS.pf (mkR k mode task 3 2 a b wk0 0 (os5 i o n t ph) acc ns) k mode task 3 3 a ph wk0 0 (os5 i o n t ph) := by
  refine Nx.mk (show _ = (mkR k mode task 3 2 a b wk0 0 (os5 i o n t ph) acc ns).fresh.pKeep 3 from rfl) ?_
  unfold mkR LS.pKeep
  simp only [LS.doA, LS.keepA, LS.keepB, LS.note, LS.go, LS.fin, LS.wake, LS.fresh, os5_0, os5_1, os5_2, os5_3, os5_4, os5_l, os5_a0, os5_a1, os5_a2, os5_a3, os5_s4, os5_c0, os5_c2]
  first | done | rfl
theorem l_keep4 : Nx LS.pf (mkR k mode task 4 0 a b wk0 0 (os5 i o n t ph) acc ns) k mode task 4 1 a ph wk0 0 (os5 i o n t ph) := by
  refine Nx.mk (show _ = (mkR k mode task 4 0 a b wk0 0 (os5 i o n t ph) acc ns).fresh.pKeep 1 from rfl) ?_
  unfold mkR LS.pKeep
  simp only [LS.doA, LS.keepA, LS.keepB, LS.note, LS.go, LS.fin, LS.wake, LS.fresh, os5_0, os5_1, os5_2, os5_3, os5_4, os5_l, os5_a0, os5_a1, os5_a2, os5_a3, os5_s4, os5_c0, os5_c2]
  first | done | rfl
theorem l_keep8 : Nx LS.pf (mkR k mode task 8 0 a b wk0 0 (os5 i o n t ph) acc ns) k mode task 8 1 a ph wk0 0 (os5 i o n t ph) := by
  refine Nx.mk (show _ = (mkR k mode task 8 0 a b wk0 0 (os5 i o n t ph) acc ns).fresh.pKeep 1 from rfl) ?_
  unfold mkR LS.pKeep
  simp only [LS.doA, LS.keepA, LS.keepB, LS.note, LS.go, LS.fin, LS.wake, LS.fresh, os5_0, os5_1, os5_2, os5_3, os5_4, os5_l, os5_a0, os5_a1, os5_a2, os5_a3, os5_s4, os5_c0, os5_c2]
  first | done | rfl
theorem l_keep6 : Nx LS.pf (mkR k mode task 6 5 a b wk0 0 (os5 i o n t ph) acc ns) k mode task 6 6 a ph wk0 0 (os5 i o n t ph) := by
  refine Nx.mk (show _ = (mkR k mode task 6 5 a b wk0 0 (os5 i o n t ph) acc ns).fresh.pKeep 6 from rfl) ?_
  unfold mkR LS.pKeep
  simp only [LS.doA, LS.keepA, LS.keepB, LS.note, LS.go, LS.fin, LS.wake, LS.fresh, os5_0, os5_1, os5_2, os5_3, os5_4, os5_l, os5_a0, os5_a1, os5_a2, os5_a3, os5_s4, os5_c0, os5_c2]
  first | done | rfl
theorem l_keep7 : Nx LS.pf (mkR k mode task 7 5 a b wk0 0 (os5 i o n t ph) acc ns) k mode task 7 6 a ph wk0 0 (os5 i o n t ph) := by
  refine Nx.mk (show _ = (mkR k mode task 7 5 a b wk0 0 (os5 i o n t ph) acc ns).fresh.pKeep 6 from rfl) ?_
  unfold mkR LS.pKeep
  simp only [LS.doA, LS.keepA, LS.keepB, LS.note, LS.go, LS.fin, LS.wake, LS.fresh, os5_0, os5_1, os5_2, os5_3, os5_4, os5_l, os5_a0, os5_a1, os5_a2, os5_a3, os5_s4, os5_c0, os5_c2]
  first | done | rfl
theorem l_app3 : Nx LS.pf (mkR k mode task 3 3 a b wk0 0 (os5 i o n t ph) acc ns) k mode task 3 4 i b wk0 0 (os5 (ad (presI b) i) o n t ph) := by
  refine Nx.mk (show _ = (mkR k mode task 3 3 a b wk0 0 (os5 i o n t ph) acc ns).fresh.pAppear 4 from rfl) ?_
  unfold mkR LS.pAppear
  simp only [LS.doA, LS.keepA, LS.keepB, LS.note, LS.go, LS.fin, LS.wake, LS.fresh, os5_0, os5_1, os5_2, os5_3, os5_4, os5_l, os5_a0, os5_a1, os5_a2, os5_a3, os5_s4, os5_c0, os5_c2]
  first | done | rfl
theorem l_app6 : Nx LS.pf (mkR k mode task 6 6 a b wk0 0 (os5 i o n t ph) acc ns) k mode task 6 7 i b wk0 0 (os5 (ad (presI b) i) o n t ph) := by
  refine Nx.mk (show _ = (mkR k mode task 6 6 a b wk0 0 (os5 i o n t ph) acc ns).fresh.pAppear 7 from rfl) ?_
  unfold mkR LS.pAppear
  simp only [LS.doA, LS.keepA, LS.keepB, LS.note, LS.go, LS.fin, LS.wake, LS.fresh, os5_0, os5_1, os5_2, os5_3, os5_4, os5_l, os5_a0, os5_a1, os5_a2, os5_a3, os5_s4, os5_c0, os5_c2]
  first | done | rfl
theorem l_app7 : Nx LS.pf (mkR k mode task 7 6 a b wk0 0 (os5 i o n t ph) acc ns) k mode task 7 7 i b wk0 0 (os5 (ad (presI b) i) o n t ph) := by
  refine Nx.mk (show _ = (mkR k mode task 7 6 a b wk0 0 (os5 i o n t ph) acc ns).fresh.pAppear 7 from rfl) ?_
  unfold mkR LS.pAppear
  simp only [LS.doA, LS.keepA, LS.keepB, LS.note, LS.go, LS.fin, LS.wake, LS.fresh, os5_0, os5_1, os5_2, os5_3, os5_4, os5_l, os5_a0, os5_a1, os5_a2, os5_a3, os5_s4, os5_c0, os5_c2]
  first | done | rfl
theorem l_van4 : Nx LS.pf (mkR k mode task 4 1 a b wk0 0 (os5 i o n t ph) acc ns) k mode task 4 2 a b (beginI mode 0) 0 (os5 (ad ((0 - presI b) % 4294967296) i) o n t ph) := by
  refine Nx.mk (show _ = (mkR k mode task 4 1 a b wk0 0 (os5 i o n t ph) acc ns).fresh.pVanish 0 7 from rfl) ?_
  unfold mkR LS.pVanish
  simp only [LS.doA, LS.keepA, LS.keepB, LS.note, LS.go, LS.fin, LS.wake, LS.fresh, os5_0, os5_1, os5_2, os5_3, os5_4, os5_l, os5_a0, os5_a1, os5_a2, os5_a3, os5_s4, os5_c0, os5_c2]
  first | done | rfl
theorem l_van8 : Nx LS.pf (mkR k mode task 8 1 a b wk0 0 (os5 i o n t ph) acc ns) k mode task 8 2 a b (beginI mode 0) 0 (os5 (ad ((256 - presI b) % 4294967296) i) o n t ph) := by
  refine Nx.mk (show _ = (mkR k mode task 8 1 a b wk0 0 (os5 i o n t ph) acc ns).fresh.pVanish 256 10 from rfl) ?_
  unfold mkR LS.pVanish
  simp only [LS.doA, LS.keepA, LS.keepB, LS.note, LS.go, LS.fin, LS.wake, LS.fresh, os5_0, os5_1, os5_2, os5_3, os5_4, os5_l, os5_a0, os5_a1, os5_a2, os5_a3, os5_s4, os5_c0, os5_c2]
  first | done | rfl
theorem l_cnt4 : Nx LS.pf (mkR k mode task 4 2 a b wk0 0 (os5 i o n t ph) acc ns) k mode task 4 3 a b wk0 0 (os5 i o n t ((b + 1) % 4294967296)) := by
  refine Nx.mk (show _ = (mkR k mode task 4 2 a b wk0 0 (os5 i o n t ph) acc ns).fresh.pCount from rfl) ?_
  unfold mkR LS.pCount
  simp only [LS.doA, LS.keepA, LS.keepB, LS.note, LS.go, LS.fin, LS.wake, LS.fresh, os5_0, os5_1, os5_2, os5_3, os5_4, os5_l, os5_a0, os5_a1, os5_a2, os5_a3, os5_s4, os5_c0, os5_c2]
  first | done | rfl
theorem l_cnt8 : Nx LS.pf (mkR k mode task 8 2 a b wk0 0 (os5 i o n t ph) acc ns) k mode task 8 3 a b wk0 0 (os5 i o n t ((b + 1) % 4294967296)) := by
  refine Nx.mk (show _ = (mkR k mode task 8 2 a b wk0 0 (os5 i o n t ph) acc ns).fresh.pCount from rfl) ?_
  unfold mkR LS.pCount
  simp only [LS.doA, LS.keepA, LS.keepB, LS.note, LS.go, LS.fin, LS.wake, LS.fresh, os5_0, os5_1, os5_2, os5_3, os5_4, os5_l, os5_a0, os5_a1, os5_a2, os5_a3, os5_s4, os5_c0, os5_c2]
  first | done | rfl
theorem l_pass4 : Nx LS.pf (mkR k mode task 4 3 a b wk0 0 (os5 i o n t ph) acc ns) k mode task 4 3 a b (beginI mode 3) 2 (os5 i o n (ad 1 t) ph) := by
  refine Nx.mk (show _ = (mkR k mode task 4 3 a b wk0 0 (os5 i o n t ph) acc ns).fresh.pPass true from rfl) ?_
  unfold mkR LS.pPass
  simp only [LS.doA, LS.keepA, LS.keepB, LS.note, LS.go, LS.fin, LS.wake, LS.fresh, os5_0, os5_1, os5_2, os5_3, os5_4, os5_l, os5_a0, os5_a1, os5_a2, os5_a3, os5_s4, os5_c0, os5_c2]
  first | done | rfl
theorem l_pass8 : Nx LS.pf (mkR k mode task 8 3 a b wk0 0 (os5 i o n t ph) acc ns) k mode task 8 3 a b (beginI mode 3) 2 (os5 i o n (ad 1 t) ph) := by
  refine Nx.mk (show _ = (mkR k mode task 8 3 a b wk0 0 (os5 i o n t ph) acc ns).fresh.pPass true from rfl) ?_
  unfold mkR LS.pPass
  simp only [LS.doA, LS.keepA, LS.keepB, LS.note, LS.go, LS.fin, LS.wake, LS.fresh, os5_0, os5_1, os5_2, os5_3, os5_4, os5_l, os5_a0, os5_a1, os5_a2, os5_a3, os5_s4, os5_c0, os5_c2]
  first | done | rfl
theorem l_pass6 : Nx LS.pf (mkR k mode task 6 9 a b wk0 0 (os5 i o n t ph) acc ns) k mode task 6 9 a b (beginI mode 3) 1 (os5 i o n (ad 1 t) ph) := by
  refine Nx.mk (show _ = (mkR k mode task 6 9 a b wk0 0 (os5 i o n t ph) acc ns).fresh.pPass false from rfl) ?_
  unfold mkR LS.pPass
  simp only [LS.doA, LS.keepA, LS.keepB, LS.note, LS.go, LS.fin, LS.wake, LS.fresh, os5_0, os5_1, os5_2, os5_3, os5_4, os5_l, os5_a0, os5_a1, os5_a2, os5_a3, os5_s4, os5_c0, os5_c2]
  first | done | rfl
theorem l_lookIn (h : bitsI i = 0) : Nx LS.pf (mkR k mode task 5 0 a b wk0 0 (os5 i o n t ph) acc ns) k mode task 5 1 i b wk0 0 (os5 i o n t ph) := by
  have hx : wordAt (mkR k mode task 5 0 a b wk0 0 (os5 i o n t ph) acc ns).fresh.xs 0 = i := os5_0
  refine Nx.mk (show _ = (mkR k mode task 5 0 a b wk0 0 (os5 i o n t ph) acc ns).fresh.pLookIn from rfl) ?_
  unfold LS.pLookIn
  rw [hx]
  rw [if_pos h]
  unfold mkR
  simp only [LS.doA, LS.keepA, LS.keepB, LS.note, LS.go, LS.fin, LS.wake, LS.fresh, os5_0, os5_1, os5_2, os5_3, os5_4, os5_l, os5_a0, os5_a1, os5_a2, os5_a3, os5_s4, os5_c0, os5_c2]
  first | done | rfl
theorem l_lookIn_no (h : ¬ bitsI i = 0) : Nx LS.pf (mkR k mode task 5 0 a b wk0 0 (os5 i o n t ph) acc ns) k mode task 5 0 i b wk0 1 (os5 i o n t ph) := by
  have hx : wordAt (mkR k mode task 5 0 a b wk0 0 (os5 i o n t ph) acc ns).fresh.xs 0 = i := os5_0
  refine Nx.mk (show _ = (mkR k mode task 5 0 a b wk0 0 (os5 i o n t ph) acc ns).fresh.pLookIn from rfl) ?_
  unfold LS.pLookIn
  rw [hx]
  rw [if_neg h]
  unfold mkR
  simp only [LS.doA, LS.keepA, LS.keepB, LS.note, LS.go, LS.fin, LS.wake, LS.fresh, os5_0, os5_1, os5_2, os5_3, os5_4, os5_l, os5_a0, os5_a1, os5_a2, os5_a3, os5_s4, os5_c0, os5_c2]
  first | done | rfl
theorem th0 : there (clean (os5 i o n t ph) k) 0 = true := os5_th (c := 0) (by decide)
theorem th2 : there (clean (os5 i o n t ph) k) 2 = true := os5_th (c := 2) (by decide)
theorem l_slip : Nx LS.pf (mkR k mode task 5 1 i b wk0 0 (os5 i o n t ph) acc ns) k mode task 5 1 i b wk0 2 (os5 (ad 256 i) o n t ph) := by
  have hx : (mkR k mode task 5 1 i b wk0 0 (os5 i o n t ph) acc ns).fresh.was 0 = true := by show (there _ 0 && (wordAt (clean (os5 i o n t ph) k) 0 == i)) = true; rw [os5_0]; simp only [mkR, LS.fresh, os5_th (c := 0) (by decide), beq_self_eq_true, Bool.and_self, th0]
  refine Nx.mk (show _ = (mkR k mode task 5 1 i b wk0 0 (os5 i o n t ph) acc ns).fresh.pSlip from rfl) ?_
  unfold LS.pSlip
  rw [if_pos hx]
  unfold mkR
  simp only [LS.doA, LS.keepA, LS.keepB, LS.note, LS.go, LS.fin, LS.wake, LS.fresh, os5_0, os5_1, os5_2, os5_3, os5_4, os5_l, os5_a0, os5_a1, os5_a2, os5_a3, os5_s4, os5_c0, os5_c2]
  first | done | rfl
theorem l_look06 : Nx LS.pf (mkR k mode task 6 0 a b wk0 0 (os5 i o n t ph) acc ns) k mode task 6 1 n b wk0 0 (os5 i o n t ph) := by
  refine Nx.mk (show _ = (mkR k mode task 6 0 a b wk0 0 (os5 i o n t ph) acc ns).fresh.pLook 2 1 from rfl) ?_
  unfold mkR LS.pLook
  simp only [LS.doA, LS.keepA, LS.keepB, LS.note, LS.go, LS.fin, LS.wake, LS.fresh, os5_0, os5_1, os5_2, os5_3, os5_4, os5_l, os5_a0, os5_a1, os5_a2, os5_a3, os5_s4, os5_c0, os5_c2]
  first | done | rfl
theorem l_look36 : Nx LS.pf (mkR k mode task 6 3 a b wk0 0 (os5 i o n t ph) acc ns) k mode task 6 4 i b wk0 0 (os5 i o n t ph) := by
  refine Nx.mk (show _ = (mkR k mode task 6 3 a b wk0 0 (os5 i o n t ph) acc ns).fresh.pLook 0 4 from rfl) ?_
  unfold mkR LS.pLook
  simp only [LS.doA, LS.keepA, LS.keepB, LS.note, LS.go, LS.fin, LS.wake, LS.fresh, os5_0, os5_1, os5_2, os5_3, os5_4, os5_l, os5_a0, os5_a1, os5_a2, os5_a3, os5_s4, os5_c0, os5_c2]
  first | done | rfl
theorem l_weighT6 (h : aheadI a t = 0) : Nx LS.pf (mkR k mode task 6 1 a b wk0 0 (os5 i o n t ph) acc ns) k mode task 6 2 a t wk0 0 (os5 i o n t ph) := by
  have ha : (mkR k mode task 6 1 a b wk0 0 (os5 i o n t ph) acc ns).fresh.a = a := rfl
  have hx : wordAt (mkR k mode task 6 1 a b wk0 0 (os5 i o n t ph) acc ns).fresh.xs 3 = t := os5_3
  refine Nx.mk (show _ = (mkR k mode task 6 1 a b wk0 0 (os5 i o n t ph) acc ns).fresh.pWeighT from rfl) ?_
  unfold LS.pWeighT
  rw [hx]
  rw [ha, h, if_neg (by decide), if_neg (by decide)]
  unfold mkR
  simp only [LS.doA, LS.keepA, LS.keepB, LS.note, LS.go, LS.fin, LS.wake, LS.fresh, os5_0, os5_1, os5_2, os5_3, os5_4, os5_l, os5_a0, os5_a1, os5_a2, os5_a3, os5_s4, os5_c0, os5_c2]
  first | done | rfl
theorem l_noT6 (h : 0 < aheadI a t) : Nx LS.pf (mkR k mode task 6 1 a b wk0 0 (os5 i o n t ph) acc ns) k mode task 6 1 a t wk0 1 (os5 i o n t ph) := by
  have ha : (mkR k mode task 6 1 a b wk0 0 (os5 i o n t ph) acc ns).fresh.a = a := rfl
  have hx : wordAt (mkR k mode task 6 1 a b wk0 0 (os5 i o n t ph) acc ns).fresh.xs 3 = t := os5_3
  refine Nx.mk (show _ = (mkR k mode task 6 1 a b wk0 0 (os5 i o n t ph) acc ns).fresh.pWeighT from rfl) ?_
  unfold LS.pWeighT
  rw [hx]
  rw [ha, if_pos h]
  unfold mkR
  simp only [LS.doA, LS.keepA, LS.keepB, LS.note, LS.go, LS.fin, LS.wake, LS.fresh, os5_0, os5_1, os5_2, os5_3, os5_4, os5_l, os5_a0, os5_a1, os5_a2, os5_a3, os5_s4, os5_c0, os5_c2]
  first | done | rfl
theorem l_weighR6 (h : aheadI a o ≤ 0) : Nx LS.pf (mkR k mode task 6 4 a b wk0 0 (os5 i o n t ph) acc ns) k mode task 6 5 a o wk0 0 (os5 i o n t ph) := by
  have ha : (mkR k mode task 6 4 a b wk0 0 (os5 i o n t ph) acc ns).fresh.a = a := rfl
  have hx : wordAt (mkR k mode task 6 4 a b wk0 0 (os5 i o n t ph) acc ns).fresh.xs 1 = o := os5_1
  refine Nx.mk (show _ = (mkR k mode task 6 4 a b wk0 0 (os5 i o n t ph) acc ns).fresh.pWeighR 0 from rfl) ?_
  unfold LS.pWeighR
  rw [hx]
  rw [ha, if_pos h]
  unfold mkR
  simp only [LS.doA, LS.keepA, LS.keepB, LS.note, LS.go, LS.fin, LS.wake, LS.fresh, os5_0, os5_1, os5_2, os5_3, os5_4, os5_l, os5_a0, os5_a1, os5_a2, os5_a3, os5_s4, os5_c0, os5_c2]
  first | done | rfl
theorem l_noR6 (h : ¬ aheadI a o ≤ 0) : Nx LS.pf (mkR k mode task 6 4 a b wk0 0 (os5 i o n t ph) acc ns) k mode task 6 9 a o wk0 0 (os5 i o n t ph) := by
  have ha : (mkR k mode task 6 4 a b wk0 0 (os5 i o n t ph) acc ns).fresh.a = a := rfl
  have hx : wordAt (mkR k mode task 6 4 a b wk0 0 (os5 i o n t ph) acc ns).fresh.xs 1 = o := os5_1
  refine Nx.mk (show _ = (mkR k mode task 6 4 a b wk0 0 (os5 i o n t ph) acc ns).fresh.pWeighR 0 from rfl) ?_
  unfold LS.pWeighR
  rw [hx]
  rw [ha, if_neg h]
  unfold mkR
  simp only [LS.doA, LS.keepA, LS.keepB, LS.note, LS.go, LS.fin, LS.wake, LS.fresh, os5_0, os5_1, os5_2, os5_3, os5_4, os5_l, os5_a0, os5_a1, os5_a2, os5_a3, os5_s4, os5_c0, os5_c2]
  first | done | rfl
theorem l_claim6 : Nx LS.pf (mkR k mode task 6 2 n b wk0 0 (os5 i o n t ph) acc ns) k mode task 6 3 n b wk0 0 (os5 i o (ad 1 n) t ph) := by
  have hx : (mkR k mode task 6 2 n b wk0 0 (os5 i o n t ph) acc ns).fresh.was 2 = true := by show (there _ 2 && (wordAt (clean (os5 i o n t ph) k) 2 == n)) = true; rw [os5_2]; simp only [mkR, LS.fresh, os5_th (c := 2) (by decide), beq_self_eq_true, Bool.and_self, th2]
  refine Nx.mk (show _ = (mkR k mode task 6 2 n b wk0 0 (os5 i o n t ph) acc ns).fresh.pClaim from rfl) ?_
  unfold LS.pClaim
  rw [if_pos hx]
  unfold mkR
  simp only [LS.doA, LS.keepA, LS.keepB, LS.note, LS.go, LS.fin, LS.wake, LS.fresh, os5_0, os5_1, os5_2, os5_3, os5_4, os5_l, os5_a0, os5_a1, os5_a2, os5_a3, os5_s4, os5_c0, os5_c2]
  first | done | rfl
theorem l_look07 : Nx LS.pf (mkR k mode task 7 0 a b wk0 0 (os5 i o n t ph) acc ns) k mode task 7 1 n b wk0 0 (os5 i o n t ph) := by
  refine Nx.mk (show _ = (mkR k mode task 7 0 a b wk0 0 (os5 i o n t ph) acc ns).fresh.pLook 2 1 from rfl) ?_
  unfold mkR LS.pLook
  simp only [LS.doA, LS.keepA, LS.keepB, LS.note, LS.go, LS.fin, LS.wake, LS.fresh, os5_0, os5_1, os5_2, os5_3, os5_4, os5_l, os5_a0, os5_a1, os5_a2, os5_a3, os5_s4, os5_c0, os5_c2]
  first | done | rfl
theorem l_look37 : Nx LS.pf (mkR k mode task 7 3 a b wk0 0 (os5 i o n t ph) acc ns) k mode task 7 4 i b wk0 0 (os5 i o n t ph) := by
  refine Nx.mk (show _ = (mkR k mode task 7 3 a b wk0 0 (os5 i o n t ph) acc ns).fresh.pLook 0 4 from rfl) ?_
  unfold mkR LS.pLook
  simp only [LS.doA, LS.keepA, LS.keepB, LS.note, LS.go, LS.fin, LS.wake, LS.fresh, os5_0, os5_1, os5_2, os5_3, os5_4, os5_l, os5_a0, os5_a1, os5_a2, os5_a3, os5_s4, os5_c0, os5_c2]
  first | done | rfl
theorem l_weighT7 (h : aheadI a t = 0) : Nx LS.pf (mkR k mode task 7 1 a b wk0 0 (os5 i o n t ph) acc ns) k mode task 7 2 a t wk0 0 (os5 i o n t ph) := by
  have ha : (mkR k mode task 7 1 a b wk0 0 (os5 i o n t ph) acc ns).fresh.a = a := rfl
  have hx : wordAt (mkR k mode task 7 1 a b wk0 0 (os5 i o n t ph) acc ns).fresh.xs 3 = t := os5_3
  refine Nx.mk (show _ = (mkR k mode task 7 1 a b wk0 0 (os5 i o n t ph) acc ns).fresh.pWeighT from rfl) ?_
  unfold LS.pWeighT
  rw [hx]
  rw [ha, h, if_neg (by decide), if_neg (by decide)]
  unfold mkR
  simp only [LS.doA, LS.keepA, LS.keepB, LS.note, LS.go, LS.fin, LS.wake, LS.fresh, os5_0, os5_1, os5_2, os5_3, os5_4, os5_l, os5_a0, os5_a1, os5_a2, os5_a3, os5_s4, os5_c0, os5_c2]
  first | done | rfl
theorem l_weighR7 (h : aheadI a o ≤ 256) : Nx LS.pf (mkR k mode task 7 4 a b wk0 0 (os5 i o n t ph) acc ns) k mode task 7 5 a o wk0 0 (os5 i o n t ph) := by
  have ha : (mkR k mode task 7 4 a b wk0 0 (os5 i o n t ph) acc ns).fresh.a = a := rfl
  have hx : wordAt (mkR k mode task 7 4 a b wk0 0 (os5 i o n t ph) acc ns).fresh.xs 1 = o := os5_1
  refine Nx.mk (show _ = (mkR k mode task 7 4 a b wk0 0 (os5 i o n t ph) acc ns).fresh.pWeighR 256 from rfl) ?_
  unfold LS.pWeighR
  rw [hx]
  rw [ha, if_pos h]
  unfold mkR
  simp only [LS.doA, LS.keepA, LS.keepB, LS.note, LS.go, LS.fin, LS.wake, LS.fresh, os5_0, os5_1, os5_2, os5_3, os5_4, os5_l, os5_a0, os5_a1, os5_a2, os5_a3, os5_s4, os5_c0, os5_c2]
  first | done | rfl
theorem l_claim7 : Nx LS.pf (mkR k mode task 7 2 n b wk0 0 (os5 i o n t ph) acc ns) k mode task 7 3 n b wk0 0 (os5 i o (ad 1 n) t ph) := by
  have hx : (mkR k mode task 7 2 n b wk0 0 (os5 i o n t ph) acc ns).fresh.was 2 = true := by show (there _ 2 && (wordAt (clean (os5 i o n t ph) k) 2 == n)) = true; rw [os5_2]; simp only [mkR, LS.fresh, os5_th (c := 2) (by decide), beq_self_eq_true, Bool.and_self, th2]
  refine Nx.mk (show _ = (mkR k mode task 7 2 n b wk0 0 (os5 i o n t ph) acc ns).fresh.pClaim from rfl) ?_
  unfold LS.pClaim
  rw [if_pos hx]
  unfold mkR
  simp only [LS.doA, LS.keepA, LS.keepB, LS.note, LS.go, LS.fin, LS.wake, LS.fresh, os5_0, os5_1, os5_2, os5_3, os5_4, os5_l, os5_a0, os5_a1, os5_a2, os5_a3, os5_s4, os5_c0, os5_c2]
  first | done | rfl
theorem l_stop : Nx LS.pf (mkR k mode task 7 8 a b wk0 0 (os5 i o n t ph) acc ns) k mode task 7 8 a b wk0 2 (os5 i (ad 256 o) n t ph) := by
  refine Nx.mk (show _ = (mkR k mode task 7 8 a b wk0 0 (os5 i o n t ph) acc ns).fresh.pStop from rfl) ?_
  unfold mkR LS.pStop
  simp only [LS.doA, LS.keepA, LS.keepB, LS.note, LS.go, LS.fin, LS.wake, LS.fresh, os5_0, os5_1, os5_2, os5_3, os5_4, os5_l, os5_a0, os5_a1, os5_a2, os5_a3, os5_s4, os5_c0, os5_c2]
  first | done | rfl
theorem l_turn : Nx LS.pf (mkR k mode task 3 1 t b wk0 0 (os5 i o n t ph) acc ns) k mode task 3 2 t b wk0 0 (os5 i o n t ph) := by
  obtain ⟨h1, h2, h3, h4⟩ := stepI_seen (xs := clean (os5 i o n t ph) k) (n := k) (mode := mode) (i := task) (c := 3) (q := (mkR k mode task 3 1 t b wk0 0 (os5 i o n t ph) acc ns).fresh.mine) (by rw [os5_3]; show (t == t) = true; exact beq_self_eq_true t)
  refine Nx.mk (show _ = (mkR k mode task 3 1 t b wk0 0 (os5 i o n t ph) acc ns).fresh.pTurn from rfl) ?_
  unfold LS.pTurn
  rw [if_pos (show ((mkR k mode task 3 1 t b wk0 0 (os5 i o n t ph) acc ns).fresh.stepR 3 (mkR k mode task 3 1 t b wk0 0 (os5 i o n t ph) acc ns).fresh.mine).done = true from h3)]
  show (⟨(k : Int), mode, task, 3, 2, t, b, (stepI (clean (os5 i o n t ph) k) k mode task 0 3 (mkR k mode task 3 1 t b wk0 0 (os5 i o n t ph) acc ns).fresh.mine).next, wk0, 0, acc0, [], (stepI (clean (os5 i o n t ph) k) k mode task 0 3 (mkR k mode task 3 1 t b wk0 0 (os5 i o n t ph) acc ns).fresh.mine).xs⟩ : LS) = _
  rw [h1, h4]
  rfl
theorem l_reads3 : Nx LS.pf (mkR k mode task 3 4 o b wk0 0 (os5 i o n t ph) acc ns) k mode task 3 4 o b wk0 2 (os5 i o n t ph) := by
  obtain ⟨h1, h2, h3, h4⟩ := stepI_seen (xs := clean (os5 i o n t ph) k) (n := k) (mode := mode) (i := task) (c := 1) (q := (mkR k mode task 3 4 o b wk0 0 (os5 i o n t ph) acc ns).fresh.mine) (by rw [os5_1]; show (o == o) = true; exact beq_self_eq_true o)
  refine Nx.mk (show _ = (mkR k mode task 3 4 o b wk0 0 (os5 i o n t ph) acc ns).fresh.pAdmit 1 (mkR k mode task 3 4 o b wk0 0 (os5 i o n t ph) acc ns).fresh.mine from rfl) ?_
  unfold LS.pAdmit
  rw [if_pos (show ((mkR k mode task 3 4 o b wk0 0 (os5 i o n t ph) acc ns).fresh.stepR 1 (mkR k mode task 3 4 o b wk0 0 (os5 i o n t ph) acc ns).fresh.mine).done = true from h3), show ((mkR k mode task 3 4 o b wk0 0 (os5 i o n t ph) acc ns).fresh.stepR 1 (mkR k mode task 3 4 o b wk0 0 (os5 i o n t ph) acc ns).fresh.mine).seen = true from h2]
  show (⟨(k : Int), mode, task, 3, 4, o, b, (stepI (clean (os5 i o n t ph) k) k mode task 0 1 (mkR k mode task 3 4 o b wk0 0 (os5 i o n t ph) acc ns).fresh.mine).next, wk0, 2, acc0, [], (stepI (clean (os5 i o n t ph) k) k mode task 0 1 (mkR k mode task 3 4 o b wk0 0 (os5 i o n t ph) acc ns).fresh.mine).xs⟩ : LS) = _
  rw [h1, h4]
  rfl
theorem l_reads6 : Nx LS.pf (mkR k mode task 6 7 o b wk0 0 (os5 i o n t ph) acc ns) k mode task 6 7 o b wk0 2 (os5 i o n t ph) := by
  obtain ⟨h1, h2, h3, h4⟩ := stepI_seen (xs := clean (os5 i o n t ph) k) (n := k) (mode := mode) (i := task) (c := 1) (q := (mkR k mode task 6 7 o b wk0 0 (os5 i o n t ph) acc ns).fresh.mine) (by rw [os5_1]; show (o == o) = true; exact beq_self_eq_true o)
  refine Nx.mk (show _ = (mkR k mode task 6 7 o b wk0 0 (os5 i o n t ph) acc ns).fresh.pAdmit 1 (mkR k mode task 6 7 o b wk0 0 (os5 i o n t ph) acc ns).fresh.mine from rfl) ?_
  unfold LS.pAdmit
  rw [if_pos (show ((mkR k mode task 6 7 o b wk0 0 (os5 i o n t ph) acc ns).fresh.stepR 1 (mkR k mode task 6 7 o b wk0 0 (os5 i o n t ph) acc ns).fresh.mine).done = true from h3), show ((mkR k mode task 6 7 o b wk0 0 (os5 i o n t ph) acc ns).fresh.stepR 1 (mkR k mode task 6 7 o b wk0 0 (os5 i o n t ph) acc ns).fresh.mine).seen = true from h2]
  show (⟨(k : Int), mode, task, 6, 7, o, b, (stepI (clean (os5 i o n t ph) k) k mode task 0 1 (mkR k mode task 6 7 o b wk0 0 (os5 i o n t ph) acc ns).fresh.mine).next, wk0, 2, acc0, [], (stepI (clean (os5 i o n t ph) k) k mode task 0 1 (mkR k mode task 6 7 o b wk0 0 (os5 i o n t ph) acc ns).fresh.mine).xs⟩ : LS) = _
  rw [h1, h4]
  rfl
theorem l_others (h : o = (a - 256) % 4294967296) : Nx LS.pf (mkR k mode task 7 7 a b wk0 0 (os5 i o n t ph) acc ns) k mode task 7 8 a b wk0 0 (os5 i o n t ph) := by
  obtain ⟨h1, h2, h3, h4⟩ := stepI_seen (xs := clean (os5 i o n t ph) k) (n := k) (mode := mode) (i := task) (c := 1) (q := (mkR k mode task 7 7 a b wk0 0 (os5 i o n t ph) acc ns).fresh.butMe) (by rw [os5_1]; show (o == (a - 256) % 4294967296) = true; rw [← h]; exact beq_self_eq_true o)
  refine Nx.mk (show _ = (mkR k mode task 7 7 a b wk0 0 (os5 i o n t ph) acc ns).fresh.pOthers from rfl) ?_
  unfold LS.pOthers
  rw [if_pos (show ((mkR k mode task 7 7 a b wk0 0 (os5 i o n t ph) acc ns).fresh.stepR 1 (mkR k mode task 7 7 a b wk0 0 (os5 i o n t ph) acc ns).fresh.butMe).done = true from h3), show ((mkR k mode task 7 7 a b wk0 0 (os5 i o n t ph) acc ns).fresh.stepR 1 (mkR k mode task 7 7 a b wk0 0 (os5 i o n t ph) acc ns).fresh.butMe).seen = true from h2]
  show (⟨(k : Int), mode, task, 7, 8, a, b, (stepI (clean (os5 i o n t ph) k) k mode task 0 1 (mkR k mode task 7 7 a b wk0 0 (os5 i o n t ph) acc ns).fresh.butMe).next, wk0, 0, acc0, [], (stepI (clean (os5 i o n t ph) k) k mode task 0 1 (mkR k mode task 7 7 a b wk0 0 (os5 i o n t ph) acc ns).fresh.butMe).xs⟩ : LS) = _
  rw [h1, h4]
  rfl
variable {chk : LS → Bool} (hk0 : Chk chk) (hk : 1 ≤ k ∧ k ≤ 64) {m : Nat} (hm : 2 * k + 16 ≤ m)
include hk0 hk hm
theorem a_rlock (h : bitsI i = 0) : aloneG chk LS.pf m (mkR k mode task 1 0 a b wk0 0 (os5 i o n t ph) acc ns) = (2, clean (os5 (ad 256 i) o n t ph) k) := by
  obtain ⟨m, rfl⟩ : ∃ q, m = q + 1 := ⟨m - 1, by omega⟩
  exact (l_come h).stop hk0 rfl (by decide)
theorem a_runlock : aloneG chk LS.pf m (mkR k mode task 2 0 a b wk0 0 (os5 i o n t ph) acc ns) = (2, clean (os5 i (ad 256 o) n t ph) k) := l_depart.done hk0 rfl os5_len hk (by decide) (by decide) (by omega)
theorem a_lock (hn : n = t) (hi : i = o) : aloneG chk LS.pf m (mkR k mode task 3 0 a b wk0 0 (os5 i o n t ph) acc ns) = (2, clean (os5 (ad (presI ph) i) o (ad 1 n) t ph) k) := by
  subst hn hi
  obtain ⟨m, rfl⟩ : ∃ q, m = q + 1 + 1 + 1 + 1 + 1 := ⟨m - 5, by omega⟩
  obtain ⟨ac1, ns1, e1⟩ := (l_draw).on hk0 rfl (m := m + 1 + 1 + 1 + 1)
  rw [e1]
  obtain ⟨ac2, ns2, e2⟩ := (l_turn).on hk0 rfl (m := m + 1 + 1 + 1)
  rw [e2]
  obtain ⟨ac3, ns3, e3⟩ := (l_keep3).on hk0 rfl (m := m + 1 + 1)
  rw [e3]
  obtain ⟨ac4, ns4, e4⟩ := (l_app3).on hk0 rfl (m := m + 1)
  rw [e4]
  exact l_reads3.stop hk0 rfl (by decide)
theorem a_unlock : aloneG chk LS.pf m (mkR k mode task 4 0 a b wk0 0 (os5 i o n t ph) acc ns) = (2, clean (os5 (ad ((0 - presI ph) % 4294967296) i) o n (ad 1 t) ((ph + 1) % 4294967296)) k) := by
  obtain ⟨m, rfl⟩ : ∃ q, m = q + 1 + 1 := ⟨m - 2, by omega⟩
  obtain ⟨ac1, ns1, e1⟩ := (l_keep4).on hk0 rfl (m := m + 1)
  rw [e1]
  obtain ⟨m', ac2, ns2, hm', e2⟩ := (l_van4 (k := k) (mode := mode) (task := task) (a := a) (b := ph) (i := i) (o := o) (n := n) (t := t) (ph := ph) (acc := ac1) (ns := ns1)).woken (m := m) hk0 rfl os5_len hk (by decide) (by omega)
  rw [e2]
  obtain ⟨m', rfl⟩ : ∃ q, m' = q + 1 := ⟨m' - 1, by omega⟩
  obtain ⟨ac3, ns3, e3⟩ := (l_cnt4).on hk0 rfl (m := m')
  rw [e3]
  exact l_pass4.done hk0 rfl os5_len hk (by decide) (by decide) (by omega)
theorem a_downgrade : aloneG chk LS.pf m (mkR k mode task 8 0 a b wk0 0 (os5 i o n t ph) acc ns) = (2, clean (os5 (ad ((256 - presI ph) % 4294967296) i) o n (ad 1 t) ((ph + 1) % 4294967296)) k) := by
  obtain ⟨m, rfl⟩ : ∃ q, m = q + 1 + 1 := ⟨m - 2, by omega⟩
  obtain ⟨ac1, ns1, e1⟩ := (l_keep8).on hk0 rfl (m := m + 1)
  rw [e1]
  obtain ⟨m', ac2, ns2, hm', e2⟩ := (l_van8 (k := k) (mode := mode) (task := task) (a := a) (b := ph) (i := i) (o := o) (n := n) (t := t) (ph := ph) (acc := ac1) (ns := ns1)).woken (m := m) hk0 rfl os5_len hk (by decide) (by omega)
  rw [e2]
  obtain ⟨m', rfl⟩ : ∃ q, m' = q + 1 := ⟨m' - 1, by omega⟩
  obtain ⟨ac3, ns3, e3⟩ := (l_cnt8).on hk0 rfl (m := m')
  rw [e3]
  exact l_pass8.done hk0 rfl os5_len hk (by decide) (by decide) (by omega)
theorem a_tryrlock (h : bitsI i = 0) : aloneG chk LS.pf m (mkR k mode task 5 0 a b wk0 0 (os5 i o n t ph) acc ns) = (2, clean (os5 (ad 256 i) o n t ph) k) := by
  obtain ⟨m, rfl⟩ : ∃ q, m = q + 1 + 1 := ⟨m - 2, by omega⟩
  obtain ⟨ac1, ns1, e1⟩ := (l_lookIn h).on hk0 rfl (m := m + 1)
  rw [e1]
  exact l_slip.stop hk0 rfl (by decide)
theorem a_tryrlock_no (h : ¬ bitsI i = 0) : aloneG chk LS.pf m (mkR k mode task 5 0 a b wk0 0 (os5 i o n t ph) acc ns) = (1, clean (os5 i o n t ph) k) := by
  obtain ⟨m, rfl⟩ : ∃ q, m = q + 1 := ⟨m - 1, by omega⟩
  exact (l_lookIn_no h).stop hk0 rfl (by decide)
theorem a_trylock (hn : n = t) (hi : i = o) : aloneG chk LS.pf m (mkR k mode task 6 0 a b wk0 0 (os5 i o n t ph) acc ns) = (2, clean (os5 (ad (presI ph) i) o (ad 1 n) t ph) k) := by
  subst hn hi
  obtain ⟨m, rfl⟩ : ∃ q, m = q + 1 + 1 + 1 + 1 + 1 + 1 + 1 + 1 := ⟨m - 8, by omega⟩
  obtain ⟨ac1, ns1, e1⟩ := (l_look06).on hk0 rfl (m := m + 1 + 1 + 1 + 1 + 1 + 1 + 1)
  rw [e1]
  obtain ⟨ac2, ns2, e2⟩ := (l_weighT6 (ahead_self _)).on hk0 rfl (m := m + 1 + 1 + 1 + 1 + 1 + 1)
  rw [e2]
  obtain ⟨ac3, ns3, e3⟩ := (l_claim6).on hk0 rfl (m := m + 1 + 1 + 1 + 1 + 1)
  rw [e3]
  obtain ⟨ac4, ns4, e4⟩ := (l_look36).on hk0 rfl (m := m + 1 + 1 + 1 + 1)
  rw [e4]
  obtain ⟨ac5, ns5, e5⟩ := (l_weighR6 (a := i) (o := i) (by rw [ahead_self]; decide)).on hk0 rfl (m := m + 1 + 1 + 1)
  rw [e5]
  obtain ⟨ac6, ns6, e6⟩ := (l_keep6).on hk0 rfl (m := m + 1 + 1)
  rw [e6]
  obtain ⟨ac7, ns7, e7⟩ := (l_app6).on hk0 rfl (m := m + 1)
  rw [e7]
  exact l_reads6.stop hk0 rfl (by decide)
theorem a_trylock_noT (h : 0 < aheadI n t) : aloneG chk LS.pf m (mkR k mode task 6 0 a b wk0 0 (os5 i o n t ph) acc ns) = (1, clean (os5 i o n t ph) k) := by
  obtain ⟨m, rfl⟩ : ∃ q, m = q + 1 + 1 := ⟨m - 2, by omega⟩
  obtain ⟨ac1, ns1, e1⟩ := (l_look06).on hk0 rfl (m := m + 1)
  rw [e1]
  exact (l_noT6 h).stop hk0 rfl (by decide)
theorem a_trylock_noR (hn : n = t) (h : 0 < aheadI i o) : aloneG chk LS.pf m (mkR k mode task 6 0 a b wk0 0 (os5 i o n t ph) acc ns) = (1, clean (os5 i o (ad 1 n) (ad 1 t) ph) k) := by
  subst hn
  obtain ⟨m, rfl⟩ : ∃ q, m = q + 1 + 1 + 1 + 1 + 1 := ⟨m - 5, by omega⟩
  obtain ⟨ac1, ns1, e1⟩ := (l_look06).on hk0 rfl (m := m + 1 + 1 + 1 + 1)
  rw [e1]
  obtain ⟨ac2, ns2, e2⟩ := (l_weighT6 (ahead_self _)).on hk0 rfl (m := m + 1 + 1 + 1)
  rw [e2]
  obtain ⟨ac3, ns3, e3⟩ := (l_claim6).on hk0 rfl (m := m + 1 + 1)
  rw [e3]
  obtain ⟨ac4, ns4, e4⟩ := (l_look36).on hk0 rfl (m := m + 1)
  rw [e4]
  obtain ⟨ac5, ns5, e5⟩ := (l_noR6 (a := i) (o := o) (by omega)).on hk0 rfl (m := m)
  rw [e5]
  exact l_pass6.done hk0 rfl os5_len hk (by decide) (by decide) (by omega)
theorem a_upgrade (hn : n = t) (h : aheadI i o ≤ 256) (ho : o = (i - 256) % 4294967296) : aloneG chk LS.pf m (mkR k mode task 7 0 a b wk0 0 (os5 i o n t ph) acc ns) = (2, clean (os5 (ad (presI ph) i) (ad 256 o) (ad 1 n) t ph) k) := by
  subst hn
  obtain ⟨m, rfl⟩ : ∃ q, m = q + 1 + 1 + 1 + 1 + 1 + 1 + 1 + 1 + 1 := ⟨m - 9, by omega⟩
  obtain ⟨ac1, ns1, e1⟩ := (l_look07).on hk0 rfl (m := m + 1 + 1 + 1 + 1 + 1 + 1 + 1 + 1)
  rw [e1]
  obtain ⟨ac2, ns2, e2⟩ := (l_weighT7 (ahead_self _)).on hk0 rfl (m := m + 1 + 1 + 1 + 1 + 1 + 1 + 1)
  rw [e2]
  obtain ⟨ac3, ns3, e3⟩ := (l_claim7).on hk0 rfl (m := m + 1 + 1 + 1 + 1 + 1 + 1)
  rw [e3]
  obtain ⟨ac4, ns4, e4⟩ := (l_look37).on hk0 rfl (m := m + 1 + 1 + 1 + 1 + 1)
  rw [e4]
  obtain ⟨ac5, ns5, e5⟩ := (l_weighR7 h).on hk0 rfl (m := m + 1 + 1 + 1 + 1)
  rw [e5]
  obtain ⟨ac6, ns6, e6⟩ := (l_keep7).on hk0 rfl (m := m + 1 + 1 + 1)
  rw [e6]
  obtain ⟨ac7, ns7, e7⟩ := (l_app7).on hk0 rfl (m := m + 1 + 1)
  rw [e7]
  obtain ⟨ac8, ns8, e8⟩ := (l_others ho).on hk0 rfl (m := m + 1)
  rw [e8]
  exact l_stop.stop hk0 rfl (by decide)
end
end Go.Proofs.Ytgfippbcgneegaa
set_option linter.unusedVariables false
set_option linter.unusedSimpArgs false
namespace Go.Proofs.Ytgfippbcgneegaa
open Go.RowKit
def newR (k mode task op : Int) (xs : List Int) : LS := ⟨k, mode, task, op, 0, 0, 0, 0, wk0, 0, acc0, [], xs⟩
def newCells (p : Option Addr) (k mode task op : Int) : Array Value := #[.pointer p, .int .i64 k, .int .i64 mode, .int .i64 task, .int .i64 op, .int .i64 0, .int .u32 0, .int .u32 0, .int .i64 0, .bool false, .int .i64 0, .int .i64 0, .bool false, .int .i64 0, .int .i64 0, .int .i64 0, .int .u32 0, .int .u32 0, .int .u32 0, .slice none 0 0]
end Go.Proofs.Ytgfippbcgneegaa
set_option linter.unusedVariables false
set_option linter.unusedSimpArgs false
namespace Go.Proofs.Ytgfippbcgneegaa
open Go.RowKit
structure T5 where
  i : Int
  o : Int
  n : Int
  t : Int
  ph : Int
def T5.xs (s : T5) (k : Nat) : List Int := clean (os5 s.i s.o s.n s.t s.ph) k
def opP (op : Int) (s : T5) : T5 :=
  if op = 1 ∨ op = 5 then ⟨ad 256 s.i, s.o, s.n, s.t, s.ph⟩ else if op = 2 then ⟨s.i, ad 256 s.o, s.n, s.t, s.ph⟩ else if op = 3 ∨ op = 6 then ⟨ad (presI s.ph) s.i, s.o, ad 1 s.n, s.t, s.ph⟩
  else if op = 4 then ⟨ad ((0 - presI s.ph) % 4294967296) s.i, s.o, s.n, ad 1 s.t, (s.ph + 1) % 4294967296⟩ else if op = 7 then ⟨ad (presI s.ph) s.i, ad 256 s.o, ad 1 s.n, s.t, s.ph⟩
  else ⟨ad ((256 - presI s.ph) % 4294967296) s.i, s.o, s.n, ad 1 s.t, (s.ph + 1) % 4294967296⟩
def okP (op : Int) (s : T5) : Prop :=
  ((op = 1 ∨ op = 5) ∧ bitsI s.i = 0) ∨ op = 2 ∨ ((op = 3 ∨ op = 6) ∧ s.n = s.t ∧ s.i = s.o) ∨ op = 4 ∨ (op = 7 ∧ s.n = s.t ∧ aheadI s.i s.o ≤ 256 ∧ s.o = (s.i - 256) % 4294967296) ∨ op = 8
theorem alone_pfG {chk : LS → Bool} (hk0 : Chk chk) {k m : Nat} {mode op task : Int} {s : T5} (hk : 1 ≤ k ∧ k ≤ 64) (hm : 2 * k + 16 ≤ m) (h : okP op s) : aloneG chk LS.pf m (newR k mode task op (s.xs k)) = (2, (opP op s).xs k) := by
  obtain ⟨i, o, n, t, ph⟩ := s
  rcases h with ⟨rfl | rfl, h⟩ | rfl | ⟨rfl | rfl, h1, h2⟩ | rfl | ⟨rfl, h1, h2, h3⟩ | rfl
  · exact a_rlock hk0 hk hm h
  · exact a_tryrlock hk0 hk hm h
  · exact a_runlock hk0 hk hm
  · exact a_lock hk0 hk hm h1 h2
  · exact a_trylock hk0 hk hm h1 h2
  · exact a_unlock hk0 hk hm
  · exact a_upgrade hk0 hk hm h1 h2 h3
  · exact a_downgrade hk0 hk hm
theorem pf_r_noG {chk : LS → Bool} (hk0 : Chk chk) {k m : Nat} {mode task : Int} {s : T5} (hk : 1 ≤ k ∧ k ≤ 64) (hm : 2 * k + 16 ≤ m) (h : ¬ bitsI s.i = 0) : aloneG chk LS.pf m (newR k mode task 5 (s.xs k)) = (1, s.xs k) := a_tryrlock_no hk0 hk hm h
theorem pf_w_noTG {chk : LS → Bool} (hk0 : Chk chk) {k m : Nat} {mode task : Int} {s : T5} (hk : 1 ≤ k ∧ k ≤ 64) (hm : 2 * k + 16 ≤ m) (h : 0 < aheadI s.n s.t) : aloneG chk LS.pf m (newR k mode task 6 (s.xs k)) = (1, s.xs k) := a_trylock_noT hk0 hk hm h
def T5.back (s : T5) : T5 := ⟨s.i, s.o, ad 1 s.n, ad 1 s.t, s.ph⟩
theorem pf_w_noRG {chk : LS → Bool} (hk0 : Chk chk) {k m : Nat} {mode task : Int} {s : T5} (hk : 1 ≤ k ∧ k ≤ 64) (hm : 2 * k + 16 ≤ m) (hn : s.n = s.t) (h : 0 < aheadI s.i s.o) : aloneG chk LS.pf m (newR k mode task 6 (s.xs k)) = (1, s.back.xs k) := a_trylock_noR hk0 hk hm hn h
structure T5.Ok (s : T5) : Prop where
  i : 0 ≤ s.i ∧ s.i < 4294967296
  o : 0 ≤ s.o ∧ s.o < 4294967296
  n : 0 ≤ s.n ∧ s.n < 4294967296
  t : 0 ≤ s.t ∧ s.t < 4294967296
  ph : 0 ≤ s.ph ∧ s.ph < 4294967296
theorem ad_bd (x v : Int) : 0 ≤ ad x v ∧ ad x v < 4294967296 := by unfold ad; omega
theorem md_bd (x : Int) : 0 ≤ x % 4294967296 ∧ x % 4294967296 < 4294967296 := by omega
theorem T5.Ok.op {s : T5} (h : s.Ok) (op : Int) : (opP op s).Ok := by
  obtain ⟨h1, h2, h3, h4, h5⟩ := h
  unfold opP
  repeat' split
  all_goals exact ⟨by first | assumption | exact ad_bd _ _, by first | assumption | exact ad_bd _ _, by first | assumption | exact ad_bd _ _, by first | assumption | exact ad_bd _ _, by first | assumption | exact md_bd _⟩
theorem T5.Ok.back {s : T5} (h : s.Ok) : s.back.Ok := ⟨h.i, h.o, ad_bd _ _, ad_bd _ _, h.ph⟩
theorem T5.Ok.words {s : T5} {k : Nat} (h : s.Ok) : Words (s.xs k) := by
  obtain ⟨hi, ho, hn, ht, hp⟩ := h
  intro x hx
  unfold T5.xs clean os5 at hx
  simp only [List.mem_append, List.mem_cons, List.not_mem_nil, or_false, List.mem_replicate] at hx
  rcases hx with (rfl | rfl | rfl | rfl | rfl | rfl | rfl | rfl) | ⟨_, rfl⟩
  all_goals first | exact wf_mk hi.1 hi.2 | exact wf_mk ho.1 ho.2 | exact wf_mk hn.1 hn.2 | exact wf_mk ht.1 ht.2 | exact wf_mk hp.1 hp.2 | rfl
def T5.at (b : Int) : T5 := ⟨b * 256 % 4294967296, b * 256 % 4294967296, b, b, b⟩
theorem at_ok {b : Int} (hb : 0 ≤ b ∧ b < 4294967296) : (T5.at b).Ok := ⟨md_bd _, md_bd _, hb, hb, hb⟩
def opsP : List (List Int) := [[1, 2], [3, 4], [5, 2], [6, 4], [3, 8, 2], [1, 7, 4], [6, 8, 7, 4]]
def foldP (l : List Int) (b : Int) : T5 := l.foldl (fun s op => opP op s) (T5.at b)
theorem foldP_next {l : List Int} {j : Nat} {op b : Int} (h : l[j]? = some op) : foldP (l.take (j + 1)) b = opP op (foldP (l.take j) b) := by
  unfold foldP
  rw [List.take_add_one, h, List.foldl_append]
  rfl
theorem foldP_ok {l : List Int} {b : Int} (hb : 0 ≤ b ∧ b < 4294967296) : (foldP l b).Ok := by
  have h : ∀ (l : List Int) (s : T5), s.Ok → (l.foldl (fun s op => opP op s) s).Ok := by
    intro l
    induction l with
    | nil => exact fun s h => h
    | cons op l ih => exact fun s h => ih _ (h.op op)
  exact h l _ (at_ok hb)
theorem pres_bd (b : Int) : 2 ≤ presI b ∧ presI b ≤ 3 := by unfold presI; omega
theorem ok_pf {b : Int} (hb : 0 ≤ b ∧ b < 4294967296) : ∀ l ∈ opsP, ∀ (j : Nat) (op : Int), l[j]? = some op → okP op (foldP (l.take j) b) := by
  have h0 : bitsI (b * 256 % 4294967296) = 0 := by unfold bitsI; omega
  intro l hl j op h
  simp only [opsP, List.mem_cons, List.not_mem_nil, or_false] at hl
  rcases hl with rfl | rfl | rfl | rfl | rfl | rfl | rfl
  all_goals
    match j, h with
    | 0, h => simp at h; subst h; simp [okP, foldP, opP, T5.at, List.foldl, List.take, h0]
    | 1, h => simp at h; subst h; simp [okP, foldP, opP, T5.at, List.foldl, List.take]; try (unfold aheadI ad; omega)
    | 2, h => simp at h; try (subst h; simp [okP, foldP, opP, T5.at, List.foldl, List.take]; try (have h1 := pres_bd b; unfold aheadI ad; omega))
    | 3, h => simp at h; try (subst h; simp [okP, foldP, opP, T5.at, List.foldl, List.take])
    | j + 4, h => simp at h
theorem end_pf {b : Int} (hb : 0 ≤ b ∧ b < 4294967296) : ∀ l ∈ opsP, (foldP l b).i = (foldP l b).o ∧ (foldP l b).n = (foldP l b).t := by
  intro l hl
  have h1 := pres_bd b
  have h2 := pres_bd ((b + 1) % 4294967296)
  simp only [opsP, List.mem_cons, List.not_mem_nil, or_false] at hl
  rcases hl with rfl | rfl | rfl | rfl | rfl | rfl | rfl
  all_goals
    simp [okP, foldP, opP, T5.at, List.foldl, List.take]
    try unfold ad
    try omega
end Go.Proofs.Ytgfippbcgneegaa
set_option linter.unusedVariables false
set_option linter.unusedSimpArgs false
namespace Go.Proofs.Ytgfippbcgneegaa
open Go.RowKit
def FirstW (xs : List Int) (S : Nat) (w : World) (e : Ending) (w' : World) : Prop :=
  ∃ g, e = .returned (.tuple #[.slice (some ⟨g, 0, none⟩) S S, .int .i64 0]) ∧ w.heap.size ≤ g ∧ Held w' (some ⟨g, 0, none⟩) S S xs ∧ Only Nil w w'
end Go.Proofs.Ytgfippbcgneegaa
set_option linter.unusedVariables false
set_option linter.unusedSimpArgs false
namespace Go.Proofs.Ytgfippbcgneegaa
open Go.RowKit
theorem words_pf (k : Nat) (b : Int) : words 2 (8 + 4 * k) 5 b = (T5.at b).xs k := by
  show words 2 (8 + 4 * k) 5 b = os5 (b * 256 % 4294967296) (b * 256 % 4294967296) b b b ++ List.replicate (4 * k) 0
  apply List.ext_getElem
  · simp [words, os5]
    omega
  · intro i h1 h2
    by_cases hi : i < 8
    · rw [List.getElem_append_left (by simpa [os5] using hi)]
      match i, hi with
      | 0, _ => simp [words, wordI, os5]
      | 1, _ => simp [words, wordI, os5]
      | 2, _ => simp [words, wordI, os5]
      | 3, _ => simp [words, wordI, os5]
      | 4, _ => simp [words, wordI, os5]
      | 5, _ => simp [words, wordI, os5]
      | 6, _ => simp [words, wordI, os5]
      | 7, _ => simp [words, wordI, os5]
    · rw [List.getElem_append_right (by simpa [os5] using hi)]
      simp only [List.getElem_replicate]
      simp [words, wordI]
      omega
theorem first_pf (k : Nat) (b : Int) (w : World) (hk : 1 ≤ k ∧ k ≤ 64) (hb : 0 ≤ b ∧ b < 4294967296) :
    Calls Try.prog 8 #[.int .i64 2, .int .i64 k, .int .u32 b] w (FirstW ((T5.at b).xs k) (8 + 4 * k) w) := by
  have hS : sizeI (k : Int) = ((8 + 4 * k : Nat) : Int) := by unfold sizeI; rw [if_pos (by omega)]; push_cast; rfl
  refine (first_yes 2 k b (8 + 4 * k) w (by omega) (by omega) hS hb).mono ?_
  rintro e w' ⟨g, rfl, hg, hR, hO⟩
  rw [show (ownV 2).size = 5 from rfl, words_pf] at hR
  have hI := Row.ints (k := .u32) (xs := (T5.at b).xs k) hR
  exact ⟨g, rfl, hg, ⟨by simp [T5.xs, clean, os5]; omega, (by intro h; cases h), hI⟩, hO⟩
end Go.Proofs.Ytgfippbcgneegaa

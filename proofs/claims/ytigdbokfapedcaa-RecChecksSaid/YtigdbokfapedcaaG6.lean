import Derived.BigQuiet
import Derived.Deep.Cut
import Derived.Test.YtigdbokfapedcaaChecked
import Derived.Laws.AppendOwn
import Derived.OwnWalk
import Derived.Test.YtigdbokfapedcaaG4
import Derived.Test.YtigdbokfapedcaaG5
import Derived.Test.YtigdbokfapedcaaG3
import Derived.Test.YtigdbokfapedcaaG1
namespace Go.Proofs.Ytigdbokfapedcaa
section
variable {P : Program} {md : Region.Mode} {Q : Exit → Act → World → Prop} {S : World → Prop} {fuel : Nat} {listed : Array Bool} {a : Act} {w : World} {oi : Oper} {ops : Array Oper} {c : Nat} {v : Value}
theorem at_list {i : Nat} (hi : ops.toList[i]? = some oi) : ops[i]? = some oi := by rw [← hi]; exact Array.getElem?_toList.symm
theorem mtk (i : Nat) (hi : ops.toList[i]? = some oi) (v : Value) (hv : ∀ w, S w → (execOp a.eval oi).run P w = .ok (.value v) w) (h : wpAnyH P md ops Q S fuel (listed.setIfInBounds i true) (a.put oi.dst v) w) (hs : Region.noSelect ops = true := by kernel_rfl) (hf : Region.free md ops listed i = true := by kernel_rfl) (hr : (Region.ready md ops listed).contains i = true := by kernel_rfl)
    (hQ : ∀ c a w, Q (.panic c) (a.put oi.dst v) w → Q (.panic c) a w := by exact fun _ _ _ h => h) (hw : Region.wanted oi (yielded ops a.tmps) = true := by rfl) (hS : S w := by assumption) : wpAnyH P md ops Q S (fuel + 1) listed a w :=
  wpAnyH_take (i := i) (oi := oi) (at_list hi) hs hf hr hQ (.inl ⟨hw, hv⟩) hS h
theorem mps (i : Nat) (hi : ops.toList[i]? = some oi) (h : wpAnyH P md ops Q S fuel (listed.setIfInBounds i true) (a.put oi.dst undef) w) (hs : Region.noSelect ops = true := by kernel_rfl) (hf : Region.free md ops listed i = true := by kernel_rfl) (hr : (Region.ready md ops listed).contains i = true := by kernel_rfl)
    (hQ : ∀ c a w, Q (.panic c) (a.put oi.dst undef) w → Q (.panic c) a w := by exact fun _ _ _ h => h) (hw : Region.wanted oi (yielded ops a.tmps) = false := by rfl) (hS : S w := by assumption) : wpAnyH P md ops Q S (fuel + 1) listed a w :=
  wpAnyH_take (i := i) (oi := oi) (at_list hi) hs hf hr hQ (.inr ⟨hw, rfl⟩) hS h
theorem mcl (i : Nat) (hi : ops.toList[i]? = some oi) (hr : Region.ready md ops listed = [i]) (hw : Region.wanted oi (yielded ops a.tmps) = true) (h : ∀ K' : Act → World → Prop, Shut (∀ a w, S w → (S w → wpAnyH P md ops Q S fuel (listed.setIfInBounds i true) a w) → K' a w) → Oper.wp P oi a w K' Q) : wpAnyH P md ops Q S (fuel + 1) listed a w :=
  wpAnyH_ready hr (by simp) (AllReadyH.cons (o := oi) (at_list hi) (fun K' hK => by rw [if_pos hw]; exact h K' hK) AllReadyH.nil)
theorem mpt (i : Nat) (hi : ops.toList[i]? = some oi) (v : Value) (hv : ∀ w, S w → (execOp a.eval oi).run P w = .ok (.value v) w) (h : wpAnyP P md ops Q S c fuel (listed.setIfInBounds i true) (a.put oi.dst v) w) (n : Nat := 9) (hs : Region.noSelect ops = true := by kernel_rfl) (hf : Region.free md ops listed i = true := by kernel_rfl) (hr : (Region.ready md ops listed).contains i = true := by kernel_rfl)
    (hld : leads md ops c n i = true := by kernel_rfl) (hcl : closedB md ops listed = true := by kernel_rfl) (hQ : ∀ c a w, Q (.panic c) (a.put oi.dst v) w → Q (.panic c) a w := by exact fun _ _ _ h => h) (hw : Region.wanted oi (yielded ops a.tmps) = true := by rfl) (hS : S w := by assumption) : wpAnyP P md ops Q S c (fuel + 1) listed a w :=
  wpAnyP_take (i := i) (oi := oi) (at_list hi) hs hf hr hld hcl hQ (.inl ⟨hw, hv⟩) hS h
theorem mpa (i : Nat) (hi : ops.toList[i]? = some oi) (v : Value) (hv : ∀ w, (execOp a.eval oi).run P w = .ok (.value v) w) (h : wpAnyP P md ops Q S c fuel (listed.setIfInBounds i true) (a.put oi.dst v) w) (hs : Region.noSelect ops = true := by kernel_rfl) (hf : Region.free md ops listed i = true := by kernel_rfl) (hr : (Region.ready md ops listed).contains i = true := by kernel_rfl)
    (hne : i ≠ c := by decide) (hcl : closedB md ops listed = true := by kernel_rfl) (hQ : ∀ c a w, Q (.panic c) (a.put oi.dst v) w → Q (.panic c) a w := by exact fun _ _ _ h => h) (hw : Region.wanted oi (yielded ops a.tmps) = true := by rfl) (hS : listed.getD c false = true ∨ S w := by first | (right; assumption) | (left; kernel_rfl)) : wpAnyP P md ops Q S c (fuel + 1) listed a w :=
  wpAnyP_any (i := i) (oi := oi) (at_list hi) hs hf hr hne hcl hQ (.inl ⟨hw, fun w _ => hv w⟩) hS h
theorem mpc (i : Nat) (hi : ops.toList[i]? = some oi) (hr : Region.ready md ops listed = [i]) (hw : Region.wanted oi (yielded ops a.tmps) = true) (h : ∀ K' : Act → World → Prop, Shut (∀ a w, ((listed.setIfInBounds i true).getD c false = true ∨ S w) → wpAnyP P md ops Q S c fuel (listed.setIfInBounds i true) a w → K' a w) → Oper.wp P oi a w K' Q) : wpAnyP P md ops Q S c (fuel + 1) listed a w :=
  wpAnyP_one (i := i) (oi := oi) (at_list hi) hr hw h
theorem zt (i : Nat) (hi : ops.toList[i]? = some oi) (h : wpAnyP P md ops Q S c fuel (listed.setIfInBounds i true) (a.put oi.dst v) w) (hv : ∀ w, S w → (execOp a.eval oi).run P w = .ok (.value v) w := by (intro w hSw; (try dsimp only at hSw); go_split_ands; go_simp <;> rfl)) (hs : Region.noSelect ops = true := by kernel_rfl) (hf : Region.free md ops listed i = true := by kernel_rfl) (hr : (Region.ready md ops listed).contains i = true := by kernel_rfl)
    (hld : leads md ops c 9 i = true := by kernel_rfl) (hcl : closedB md ops listed = true := by kernel_rfl) (hQ : ∀ c a w, Q (.panic c) (a.put oi.dst v) w → Q (.panic c) a w := by exact fun _ _ _ h => h) (hw : Region.wanted oi (yielded ops a.tmps) = true := by rfl) (hS : S w := by assumption) : wpAnyP P md ops Q S c (fuel + 1) listed a w := mpt i hi v hv h 9 hs hf hr hld hcl hQ hw hS
theorem za (i : Nat) (hi : ops.toList[i]? = some oi) (h : wpAnyP P md ops Q S c fuel (listed.setIfInBounds i true) (a.put oi.dst v) w) (hv : ∀ w, (execOp a.eval oi).run P w = .ok (.value v) w := by (intro w; go_simp <;> rfl)) (hs : Region.noSelect ops = true := by kernel_rfl) (hf : Region.free md ops listed i = true := by kernel_rfl) (hr : (Region.ready md ops listed).contains i = true := by kernel_rfl)
    (hne : i ≠ c := by decide) (hcl : closedB md ops listed = true := by kernel_rfl) (hQ : ∀ c a w, Q (.panic c) (a.put oi.dst v) w → Q (.panic c) a w := by exact fun _ _ _ h => h) (hw : Region.wanted oi (yielded ops a.tmps) = true := by rfl) (hS : listed.getD c false = true ∨ S w := by first | (right; assumption) | (left; kernel_rfl)) : wpAnyP P md ops Q S c (fuel + 1) listed a w := mpa i hi v hv h hs hf hr hne hcl hQ hw hS
theorem zk (i : Nat) (hi : ops.toList[i]? = some oi) (h : wpAnyH P md ops Q S fuel (listed.setIfInBounds i true) (a.put oi.dst v) w) (hv : ∀ w, S w → (execOp a.eval oi).run P w = .ok (.value v) w := by (intro w hSw; (try dsimp only at hSw); go_split_ands; go_simp <;> rfl)) (hs : Region.noSelect ops = true := by kernel_rfl) (hf : Region.free md ops listed i = true := by kernel_rfl) (hr : (Region.ready md ops listed).contains i = true := by kernel_rfl)
    (hQ : ∀ c a w, Q (.panic c) (a.put oi.dst v) w → Q (.panic c) a w := by exact fun _ _ _ h => h) (hw : Region.wanted oi (yielded ops a.tmps) = true := by rfl) (hS : S w := by assumption) : wpAnyH P md ops Q S (fuel + 1) listed a w := mtk i hi v hv h hs hf hr hQ hw hS
end
end Go.Proofs.Ytigdbokfapedcaa
set_option linter.unusedVariables false
set_option linter.unusedSimpArgs false
namespace Go.Proofs.Ytigdbokfapedcaa
open Go.RowKit
theorem both_ready {P : Program} {md : Region.Mode} {ops : Array Oper} {Q : Exit → Act → World → Prop} {S : World → Prop} {fuel : Nat} {listed : Array Bool} {a : Act} {w : World} (i j : Nat) {oi oj : Oper} (hr : Region.ready md ops listed = [i, j]) (hi : ops[i]? = some oi) (hj : ops[j]? = some oj)
    (wi : Region.wanted oi (yielded ops a.tmps) = true) (wj : Region.wanted oj (yielded ops a.tmps) = true)
    (h1 : ∀ K' : Act → World → Prop, Shut (∀ a w, S w → (S w → wpAnyH P md ops Q S fuel (listed.setIfInBounds i true) a w) → K' a w) → Oper.wp P oi a w K' Q)
    (h2 : ∀ K' : Act → World → Prop, Shut (∀ a w, S w → (S w → wpAnyH P md ops Q S fuel (listed.setIfInBounds j true) a w) → K' a w) → Oper.wp P oj a w K' Q) : wpAnyH P md ops Q S (fuel + 1) listed a w :=
  wpAnyH_ready hr (by simp) (AllReadyH.cons (o := oi) hi (fun K' hK => by rw [if_pos wi]; exact h1 K' hK) (AllReadyH.cons (o := oj) hj (fun K' hK => by rw [if_pos wj]; exact h2 K' hK) AllReadyH.nil))
theorem ints_same (A1 A2 : Option Addr) (c1 c2 n : Nat) (xs : List Int) (w : World) (h1 : Ints w w.heap.size .i64 A1 xs) (h2 : Ints w w.heap.size .i64 A2 xs) (hn : xs.length = n) (hm : n ≤ 1000000) :
    Calls Try.prog 10 #[.slice A1 n c1, .slice A2 n c2] w fun e w' => e = .returned (.bool true) ∧ Only Nil w w' := by
  have H1 := Lib.hid h1
  have H2 := Lib.hid h2
  have HN := Lib.hid hn
  have q0 : (n : Int) ≤ 9223372036854775806 := by omega
  clear h1 h2 hn hm
  go_enter Try.func10, Try.ntmps10
  go_wp2
  go_loopw [5] (fun i wr => ∃ k : Nat, k ≤ n ∧ i = .int .i64 k ∧ Hid (Drew w wr)) (fun i _ => n - (intOf i).toNat)
  case atStart => exact ⟨0, Nat.zero_le _, rfl, Lib.hid (Drew.refl _)⟩
  case round =>
    obtain ⟨k, hk, rfl, HD⟩ := hrel
    by_cases hlt : k < n
    · have q1 : (k : Int) < n := by omega
      have HLT := Lib.hid hlt
      obtain ⟨b, q, rfl, hb, hat⟩ := (H1.out.drewd HD.out) (by rw [HN.out]; omega)
      obtain ⟨b', q', rfl, hb', hat'⟩ := (H2.out.drewd HD.out) (by rw [HN.out]; omega)
      have f0 := hat k (by rw [HN.out]; exact hlt)
      have g0 := hat' k (by rw [HN.out]; exact hlt)
      clear hat hat'
      generalize xs.getD k 0 = z at *
      go_wp2
      go_quiet (fail)
      go_wp2
      exact ⟨⟨k + 1, by have := HLT.out; omega, by go_num, Lib.hid (HD.out.trans (Drew.n _ _))⟩, by have := HLT.out; simp [intOf]; omega⟩
    · obtain rfl : k = n := by omega
      clear hlt hk
      go_wp2
      go_ret
      exact ⟨rfl, HD.out.only⟩
set_option maxRecDepth 100000 in
set_option maxHeartbeats 4000000 in
theorem same_cals (v1 v2 : Value) (cs : List Cal) (w : World) (h1 : CalsAt w v1 cs) (h2 : CalsAt w v2 cs) (hm : cs.length ≤ 1000000) (hp : ∀ c ∈ cs, c.ps.length ≤ 1000000) :
    Calls Try.prog 7 #[v1, v2] w fun e w' => e = .returned (.bool true) ∧ Only Nil w w' := by
  have h1' := h1
  have h2' := h2
  obtain ⟨A1, c1, rfl, _⟩ := h1'
  obtain ⟨A2, c2, rfl, _⟩ := h2'
  have H1 := Lib.hid h1
  have H2 := Lib.hid h2
  have HP := Lib.hid hp
  generalize hn : cs.length = n at *
  have HN := Lib.hid hn
  have q0 : (n : Int) ≤ 9223372036854775806 := by omega
  clear h1 h2 hn hm hp
  go_enter Try.func7, Try.ntmps7
  go_wp2
  go_loopw [5] (fun i wr => ∃ k : Nat, k ≤ n ∧ i = .int .i64 k ∧ Hid (Only Nil w wr)) (fun i _ => n - (intOf i).toNat)
  case atStart => exact ⟨0, Nat.zero_le _, rfl, Lib.hid (Only.refl _ _)⟩
  case round =>
    obtain ⟨k, hk, rfl, HO⟩ := hrel
    by_cases hlt : k < n
    · have q1 : (k : Int) < n := by omega
      have HLT := Lib.hid hlt
      obtain ⟨c, hc⟩ : ∃ c, cs[k]? = some c := ⟨_, List.getElem?_eq_getElem (by rw [HN.out]; exact hlt)⟩
      have HLM0 := Lib.hid (HP.out c (List.mem_of_getElem? hc))
      obtain ⟨Aa, ka, ea, ha⟩ := H1.out.only HO.out
      injection ea with ea ea2 ea3
      subst ea
      clear ea2 ea3
      obtain ⟨b, q, rfl, hb, a0, a1, a2, a3, a4, A5, k5, a5, hI1⟩ := ha k c hc
      obtain ⟨Ab, kb, eb, hbb⟩ := H2.out.only HO.out
      injection eb with eb eb2 eb3
      subst eb
      clear eb2 eb3
      obtain ⟨b', q', rfl, hb', b0, b1, b2, b3, b4, B5, j5, b5, hI2⟩ := hbb k c hc
      generalize hL : c.ps.length = L at *
      have HLL := Lib.hid hL
      have HI1 := Lib.hid (fun (W : World) (ho : Only Nil wr W) => (show Ints W W.heap.size .i64 A5 c.ps from (hI1.only ho (Nat.le_refl _) (fun _ _ => id)).more ho.size))
      have HI2 := Lib.hid (fun (W : World) (ho : Only Nil wr W) => (show Ints W W.heap.size .i64 B5 c.ps from (hI2.only ho (Nat.le_refl _) (fun _ _ => id)).more ho.size))
      have HLM := HLM0
      have hS := Lib.hid (fun (W : World) (ho : Only Nil wr W) => (⟨(ho.cell (World.block_lt_of_cell? wr _ a0) id).trans a0, (ho.cell (World.block_lt_of_cell? wr _ a1) id).trans a1, (ho.cell (World.block_lt_of_cell? wr _ a2) id).trans a2, (ho.cell (World.block_lt_of_cell? wr _ a3) id).trans a3, (ho.cell (World.block_lt_of_cell? wr _ a4) id).trans a4, (ho.cell (World.block_lt_of_cell? wr _ a5) id).trans a5, (ho.cell (World.block_lt_of_cell? wr _ b0) id).trans b0, (ho.cell (World.block_lt_of_cell? wr _ b1) id).trans b1, (ho.cell (World.block_lt_of_cell? wr _ b2) id).trans b2, (ho.cell (World.block_lt_of_cell? wr _ b3) id).trans b3, (ho.cell (World.block_lt_of_cell? wr _ b4) id).trans b4, (ho.cell (World.block_lt_of_cell? wr _ b5) id).trans b5⟩ :
        (W.cell? ⟨b, q + k * 6, none⟩ = some (.int .i64 c.t) ∧ W.cell? ⟨b, q + k * 6 + 1, none⟩ = some (.int .i64 c.o) ∧ W.cell? ⟨b, q + k * 6 + 2, none⟩ = some (.int .i64 c.f) ∧ W.cell? ⟨b, q + k * 6 + 3, none⟩ = some (.int .i64 c.g) ∧ W.cell? ⟨b, q + k * 6 + 4, none⟩ = some (.int .i64 c.r) ∧ W.cell? ⟨b, q + k * 6 + 5, none⟩ = some (.slice A5 L k5) ∧
         W.cell? ⟨b', q' + k * 6, none⟩ = some (.int .i64 c.t) ∧ W.cell? ⟨b', q' + k * 6 + 1, none⟩ = some (.int .i64 c.o) ∧ W.cell? ⟨b', q' + k * 6 + 2, none⟩ = some (.int .i64 c.f) ∧ W.cell? ⟨b', q' + k * 6 + 3, none⟩ = some (.int .i64 c.g) ∧ W.cell? ⟨b', q' + k * 6 + 4, none⟩ = some (.int .i64 c.r) ∧ W.cell? ⟨b', q' + k * 6 + 5, none⟩ = some (.slice B5 L j5))))
      clear hc hb hb' hI1 hI2 hL a0 a1 a2 a3 a4 a5 b0 b1 b2 b3 b4 b5 ha hbb HLM0
      go_upto_region 6 with (fail)
      refine wp_region_held_drew (S := fun W => W.cell? ⟨b, q + k * 6, none⟩ = some (.int .i64 c.t) ∧ W.cell? ⟨b, q + k * 6 + 1, none⟩ = some (.int .i64 c.o) ∧ W.cell? ⟨b, q + k * 6 + 2, none⟩ = some (.int .i64 c.f) ∧ W.cell? ⟨b, q + k * 6 + 3, none⟩ = some (.int .i64 c.g) ∧ W.cell? ⟨b, q + k * 6 + 4, none⟩ = some (.int .i64 c.r) ∧ W.cell? ⟨b, q + k * 6 + 5, none⟩ = some (.slice A5 L k5) ∧
         W.cell? ⟨b', q' + k * 6, none⟩ = some (.int .i64 c.t) ∧ W.cell? ⟨b', q' + k * 6 + 1, none⟩ = some (.int .i64 c.o) ∧ W.cell? ⟨b', q' + k * 6 + 2, none⟩ = some (.int .i64 c.f) ∧ W.cell? ⟨b', q' + k * 6 + 3, none⟩ = some (.int .i64 c.g) ∧ W.cell? ⟨b', q' + k * 6 + 4, none⟩ = some (.int .i64 c.r) ∧ W.cell? ⟨b', q' + k * 6 + 5, none⟩ = some (.slice B5 L j5)) (by kernel_rfl) (hS.out wr (Only.refl _ _)) (fun hHeld => ?_)
      refine zk 0 rfl ?_
      refine zk 1 rfl ?_
      refine zk 2 rfl ?_
      refine zk 3 rfl ?_
      refine zk 4 rfl ?_
      refine zk 5 rfl ?_
      refine zk 6 rfl ?_
      refine zk 7 rfl ?_
      refine both_ready 8 9 (by kernel_rfl) (by rfl) (by rfl) (by rfl) (by rfl) (fun K hK => ?_) (fun K hK => ?_)
      · skip
        go_simp
        have e1 := ((Only.refl Nil wr).alloc (.cells #[.int .i64 0, .int .i64 0, .int .i64 0, .int .i64 0, .int .i64 0, .slice none 0 0] 38)).drew
        refine hK.out _ _ (hS.out _ e1) (fun hHeld2 => ?_)
        have HGa0 := (Row.new wr 38 #[.int .i64 0, .int .i64 0, .int .i64 0, .int .i64 0, .int .i64 0, .slice none 0 0]).drew
        have HWW := Lib.hid (show wr.heap.size < ((wr.alloc (.cells #[.int .i64 0, .int .i64 0, .int .i64 0, .int .i64 0, .int .i64 0, .slice none 0 0] 38)).drew).heap.size from HGa0.lt)
        clear hK K hHeld
        generalize (wr.alloc (.cells #[.int .i64 0, .int .i64 0, .int .i64 0, .int .i64 0, .int .i64 0, .slice none 0 0] 38)).drew = w1 at *
        refine mcl 9 rfl (by kernel_rfl) (by rfl) (fun K hK => ?_)
        go_simp
        have e2 := e1.alloc (.cells #[.int .i64 0, .int .i64 0, .int .i64 0, .int .i64 0, .int .i64 0, .slice none 0 0] 38)
        refine hK.out _ _ (hS.out _ e2) (fun hHeld => ?_)
        have HGa := Lib.hid (HGa0.alloc (.cells #[.int .i64 0, .int .i64 0, .int .i64 0, .int .i64 0, .int .i64 0, .slice none 0 0] 38))
        have HGb := Lib.hid (Row.new w1 38 #[.int .i64 0, .int .i64 0, .int .i64 0, .int .i64 0, .int .i64 0, .slice none 0 0])
        have HO2 := Lib.hid e2
        clear hK K hHeld hHeld2 HGa0 e1 e2
        generalize w1.alloc (.cells #[.int .i64 0, .int .i64 0, .int .i64 0, .int .i64 0, .int .i64 0, .slice none 0 0] 38) = w2 at *
        have HG6 := HGa
        have HG7 := HGb
        generalize hG6 : wr.heap.size = G6 at *
        generalize hG7 : w1.heap.size = G7 at *
        have HGE := Lib.hid (And.intro (show wr.heap.size ≤ G6 by omega) (And.intro (show wr.heap.size ≤ G7 by have := HWW.out; omega) (show G7 ≠ G6 by have := HWW.out; omega)))
        refine mcl 10 rfl (by kernel_rfl) (by rfl) (fun K hK => ?_)
        refine wp_storeR' 38 (.tmp 6) (.tmp 22) rfl (by rfl) (by rfl) HG6.out (by kernel_rfl) (Nat.le_refl 6) (by rfl) ?_
        rw [putL_all (by rfl)]
        have o3 := (HO2.out).setRow (g := G6) (.inl HGE.out.1) #[.int .i64 c.t, .int .i64 c.o, .int .i64 c.f, .int .i64 c.g, .int .i64 c.r, .slice A5 L k5]
        refine hK.out _ _ (hS.out _ o3) (fun hHeld3 => ?_)
        have HA3 := Lib.hid (HG6.out.setRow #[.int .i64 c.t, .int .i64 c.o, .int .i64 c.f, .int .i64 c.g, .int .i64 c.r, .slice A5 L k5])
        have HB3 := Lib.hid (HG7.out.only ((Only.refl (· = G6) w2).setRow (g := G6) (.inr rfl) #[.int .i64 c.t, .int .i64 c.o, .int .i64 c.f, .int .i64 c.g, .int .i64 c.r, .slice A5 L k5]) HGE.out.2.2)
        have HO3 := Lib.hid o3
        clear hK K o3 HG6 HG7 HO2 hHeld3
        generalize w2.setRow G6 _ = w3 at *
        refine mcl 11 rfl (by kernel_rfl) (by rfl) (fun K hK => ?_)
        refine wp_storeR' 38 (.tmp 7) (.tmp 26) rfl (by rfl) (by rfl) HB3.out (by kernel_rfl) (Nat.le_refl 6) (by rfl) ?_
        rw [putL_all (by rfl)]
        have o4 := (HO3.out).setRow (g := G7) (.inl HGE.out.2.1) #[.int .i64 c.t, .int .i64 c.o, .int .i64 c.f, .int .i64 c.g, .int .i64 c.r, .slice B5 L j5]
        refine hK.out _ _ (hS.out _ o4) (fun hHeld4 => ?_)
        have HB4 := Lib.hid (HB3.out.setRow #[.int .i64 c.t, .int .i64 c.o, .int .i64 c.f, .int .i64 c.g, .int .i64 c.r, .slice B5 L j5])
        have HA4 := Lib.hid (HA3.out.only ((Only.refl (· = G7) w3).setRow (g := G7) (.inr rfl) #[.int .i64 c.t, .int .i64 c.o, .int .i64 c.f, .int .i64 c.g, .int .i64 c.r, .slice B5 L j5]) (fun e => HGE.out.2.2 e.symm))
        have HO4 := Lib.hid o4
        clear hK K o4 HB3 HA3 HO3 hHeld4
        generalize w3.setRow G7 _ = w4 at *
        refine wpAnyH_done (by kernel_rfl) ?_ _
        have p0 : w4.cell? ⟨G6, 0, none⟩ = some (.int .i64 c.t) := HA4.out.cell_ (i := 0) rfl
        have p1 : w4.cell? ⟨G6, 1, none⟩ = some (.int .i64 c.o) := HA4.out.cell_ (i := 1) rfl
        have p2 : w4.cell? ⟨G6, 2, none⟩ = some (.int .i64 c.f) := HA4.out.cell_ (i := 2) rfl
        have p3 : w4.cell? ⟨G6, 3, none⟩ = some (.int .i64 c.g) := HA4.out.cell_ (i := 3) rfl
        have p4 : w4.cell? ⟨G6, 4, none⟩ = some (.int .i64 c.r) := HA4.out.cell_ (i := 4) rfl
        have p5 : w4.cell? ⟨G6, 5, none⟩ = some (.slice A5 L k5) := HA4.out.cell_ (i := 5) rfl
        have s0 : w4.cell? ⟨G7, 0, none⟩ = some (.int .i64 c.t) := HB4.out.cell_ (i := 0) rfl
        have s1 : w4.cell? ⟨G7, 1, none⟩ = some (.int .i64 c.o) := HB4.out.cell_ (i := 1) rfl
        have s2 : w4.cell? ⟨G7, 2, none⟩ = some (.int .i64 c.f) := HB4.out.cell_ (i := 2) rfl
        have s3 : w4.cell? ⟨G7, 3, none⟩ = some (.int .i64 c.g) := HB4.out.cell_ (i := 3) rfl
        have s4 : w4.cell? ⟨G7, 4, none⟩ = some (.int .i64 c.r) := HB4.out.cell_ (i := 4) rfl
        have s5 : w4.cell? ⟨G7, 5, none⟩ = some (.slice B5 L j5) := HB4.out.cell_ (i := 5) rfl
        go_wp2_with fail
        refine (ints_same A5 B5 k5 j5 L c.ps _ (HI1.out _ HO4.out) (HI2.out _ HO4.out) HLL.out HLM.out).mono ?_
        rintro e w5 ⟨rfl, hO5⟩
        have HO5 := Lib.hid ((HO.out.trans HO4.out).trans hO5)
        clear hO5 HO4 HA4 HB4 p0 p1 p2 p3 p4 p5 s0 s1 s2 s3 s4 s5
        go_wp2
        exact ⟨⟨k + 1, by have := HLT.out; omega, by go_num, HO5⟩, by have := HLT.out; simp [intOf]; omega⟩
      · skip
        go_simp
        have e1 := ((Only.refl Nil wr).alloc (.cells #[.int .i64 0, .int .i64 0, .int .i64 0, .int .i64 0, .int .i64 0, .slice none 0 0] 38)).drew
        refine hK.out _ _ (hS.out _ e1) (fun hHeld2 => ?_)
        have HGa0 := (Row.new wr 38 #[.int .i64 0, .int .i64 0, .int .i64 0, .int .i64 0, .int .i64 0, .slice none 0 0]).drew
        have HWW := Lib.hid (show wr.heap.size < ((wr.alloc (.cells #[.int .i64 0, .int .i64 0, .int .i64 0, .int .i64 0, .int .i64 0, .slice none 0 0] 38)).drew).heap.size from HGa0.lt)
        clear hK K hHeld
        generalize (wr.alloc (.cells #[.int .i64 0, .int .i64 0, .int .i64 0, .int .i64 0, .int .i64 0, .slice none 0 0] 38)).drew = w1 at *
        refine mcl 8 rfl (by kernel_rfl) (by rfl) (fun K hK => ?_)
        go_simp
        have e2 := e1.alloc (.cells #[.int .i64 0, .int .i64 0, .int .i64 0, .int .i64 0, .int .i64 0, .slice none 0 0] 38)
        refine hK.out _ _ (hS.out _ e2) (fun hHeld => ?_)
        have HGa := Lib.hid (HGa0.alloc (.cells #[.int .i64 0, .int .i64 0, .int .i64 0, .int .i64 0, .int .i64 0, .slice none 0 0] 38))
        have HGb := Lib.hid (Row.new w1 38 #[.int .i64 0, .int .i64 0, .int .i64 0, .int .i64 0, .int .i64 0, .slice none 0 0])
        have HO2 := Lib.hid e2
        clear hK K hHeld hHeld2 HGa0 e1 e2
        generalize w1.alloc (.cells #[.int .i64 0, .int .i64 0, .int .i64 0, .int .i64 0, .int .i64 0, .slice none 0 0] 38) = w2 at *
        have HG6 := HGb
        have HG7 := HGa
        generalize hG6 : w1.heap.size = G6 at *
        generalize hG7 : wr.heap.size = G7 at *
        have HGE := Lib.hid (And.intro (show wr.heap.size ≤ G6 by have := HWW.out; omega) (And.intro (show wr.heap.size ≤ G7 by omega) (show G7 ≠ G6 by have := HWW.out; omega)))
        refine mcl 10 rfl (by kernel_rfl) (by rfl) (fun K hK => ?_)
        refine wp_storeR' 38 (.tmp 6) (.tmp 22) rfl (by rfl) (by rfl) HG6.out (by kernel_rfl) (Nat.le_refl 6) (by rfl) ?_
        rw [putL_all (by rfl)]
        have o3 := (HO2.out).setRow (g := G6) (.inl HGE.out.1) #[.int .i64 c.t, .int .i64 c.o, .int .i64 c.f, .int .i64 c.g, .int .i64 c.r, .slice A5 L k5]
        refine hK.out _ _ (hS.out _ o3) (fun hHeld3 => ?_)
        have HA3 := Lib.hid (HG6.out.setRow #[.int .i64 c.t, .int .i64 c.o, .int .i64 c.f, .int .i64 c.g, .int .i64 c.r, .slice A5 L k5])
        have HB3 := Lib.hid (HG7.out.only ((Only.refl (· = G6) w2).setRow (g := G6) (.inr rfl) #[.int .i64 c.t, .int .i64 c.o, .int .i64 c.f, .int .i64 c.g, .int .i64 c.r, .slice A5 L k5]) HGE.out.2.2)
        have HO3 := Lib.hid o3
        clear hK K o3 HG6 HG7 HO2 hHeld3
        generalize w2.setRow G6 _ = w3 at *
        refine mcl 11 rfl (by kernel_rfl) (by rfl) (fun K hK => ?_)
        refine wp_storeR' 38 (.tmp 7) (.tmp 26) rfl (by rfl) (by rfl) HB3.out (by kernel_rfl) (Nat.le_refl 6) (by rfl) ?_
        rw [putL_all (by rfl)]
        have o4 := (HO3.out).setRow (g := G7) (.inl HGE.out.2.1) #[.int .i64 c.t, .int .i64 c.o, .int .i64 c.f, .int .i64 c.g, .int .i64 c.r, .slice B5 L j5]
        refine hK.out _ _ (hS.out _ o4) (fun hHeld4 => ?_)
        have HB4 := Lib.hid (HB3.out.setRow #[.int .i64 c.t, .int .i64 c.o, .int .i64 c.f, .int .i64 c.g, .int .i64 c.r, .slice B5 L j5])
        have HA4 := Lib.hid (HA3.out.only ((Only.refl (· = G7) w3).setRow (g := G7) (.inr rfl) #[.int .i64 c.t, .int .i64 c.o, .int .i64 c.f, .int .i64 c.g, .int .i64 c.r, .slice B5 L j5]) (fun e => HGE.out.2.2 e.symm))
        have HO4 := Lib.hid o4
        clear hK K o4 HB3 HA3 HO3 hHeld4
        generalize w3.setRow G7 _ = w4 at *
        refine wpAnyH_done (by kernel_rfl) ?_ _
        have p0 : w4.cell? ⟨G6, 0, none⟩ = some (.int .i64 c.t) := HA4.out.cell_ (i := 0) rfl
        have p1 : w4.cell? ⟨G6, 1, none⟩ = some (.int .i64 c.o) := HA4.out.cell_ (i := 1) rfl
        have p2 : w4.cell? ⟨G6, 2, none⟩ = some (.int .i64 c.f) := HA4.out.cell_ (i := 2) rfl
        have p3 : w4.cell? ⟨G6, 3, none⟩ = some (.int .i64 c.g) := HA4.out.cell_ (i := 3) rfl
        have p4 : w4.cell? ⟨G6, 4, none⟩ = some (.int .i64 c.r) := HA4.out.cell_ (i := 4) rfl
        have p5 : w4.cell? ⟨G6, 5, none⟩ = some (.slice A5 L k5) := HA4.out.cell_ (i := 5) rfl
        have s0 : w4.cell? ⟨G7, 0, none⟩ = some (.int .i64 c.t) := HB4.out.cell_ (i := 0) rfl
        have s1 : w4.cell? ⟨G7, 1, none⟩ = some (.int .i64 c.o) := HB4.out.cell_ (i := 1) rfl
        have s2 : w4.cell? ⟨G7, 2, none⟩ = some (.int .i64 c.f) := HB4.out.cell_ (i := 2) rfl
        have s3 : w4.cell? ⟨G7, 3, none⟩ = some (.int .i64 c.g) := HB4.out.cell_ (i := 3) rfl
        have s4 : w4.cell? ⟨G7, 4, none⟩ = some (.int .i64 c.r) := HB4.out.cell_ (i := 4) rfl
        have s5 : w4.cell? ⟨G7, 5, none⟩ = some (.slice B5 L j5) := HB4.out.cell_ (i := 5) rfl
        go_wp2_with fail
        refine (ints_same A5 B5 k5 j5 L c.ps _ (HI1.out _ HO4.out) (HI2.out _ HO4.out) HLL.out HLM.out).mono ?_
        rintro e w5 ⟨rfl, hO5⟩
        have HO5 := Lib.hid ((HO.out.trans HO4.out).trans hO5)
        clear hO5 HO4 HA4 HB4 p0 p1 p2 p3 p4 p5 s0 s1 s2 s3 s4 s5
        go_wp2
        exact ⟨⟨k + 1, by have := HLT.out; omega, by go_num, HO5⟩, by have := HLT.out; simp [intOf]; omega⟩
    · obtain rfl : k = n := by omega
      clear hlt hk
      go_wp2
      go_ret
      exact ⟨rfl, HO.out⟩
end Go.Proofs.Ytigdbokfapedcaa
set_option linter.unusedVariables false
set_option linter.unusedSimpArgs false
namespace Go.Proofs.Ytigdbokfapedcaa
open Go.RowKit
structure At4 (w : World) (b q : Nat) (n : Nt) : Prop where
  c0 : w.cell? ⟨b, q, none⟩ = some (.int .i64 n.t)
  c1 : w.cell? ⟨b, q + 1, none⟩ = some (.int .i64 n.w)
  c2 : w.cell? ⟨b, q + 2, none⟩ = some (.int .i64 n.o)
  c3 : w.cell? ⟨b, q + 3, none⟩ = some (.int .i64 n.a)
def Notes (w : World) (A : Option Addr) (zs : List Nt) : Prop := 0 < zs.length → ∃ b q, A = some ⟨b, q, none⟩ ∧ b < w.heap.size ∧ ∀ (i : Nat) (n : Nt), zs[i]? = some n → At4 w b (q + i * 4) n
theorem At4.only {w w' : World} {b q : Nat} {n : Nt} (h : At4 w b q n) (ho : Only Nil w w') (hb : b < w.heap.size) : At4 w' b q n :=
  ⟨(ho.cell (p := ⟨b, q, none⟩) hb id).trans h.c0, (ho.cell (p := ⟨b, q + 1, none⟩) hb id).trans h.c1, (ho.cell (p := ⟨b, q + 2, none⟩) hb id).trans h.c2, (ho.cell (p := ⟨b, q + 3, none⟩) hb id).trans h.c3⟩
theorem Notes.only {w w' : World} {A : Option Addr} {zs : List Nt} (h : Notes w A zs) (ho : Only Nil w w') : Notes w' A zs := fun h0 => by
  obtain ⟨b, q, e, hb, hc⟩ := h h0
  exact ⟨b, q, e, Nat.lt_of_lt_of_le hb ho.size, fun i n hi => (hc i n hi).only ho hb⟩
end Go.Proofs.Ytigdbokfapedcaa

/- RcCalls. -/
import Derived.RegionTactic
import Derived.BigRegion
import Derived.Deep.Cut
import Derived.Test.YtigdbokfapedcaaGreatB21
import Derived.Test.YtigdbokfapedcaaGreatB3
import Derived.Test.YtigdbokfapedcaaGreatB6
/- rec.Calls. -/
set_option linter.unusedVariables false
set_option linter.unusedSimpArgs false
namespace Go.Proofs.YtigdbokfapedcaaGreat
open Go.RowKit
/-- Each task's open calls. -/
def ixOf (cs : List Cal) (t : Int) : List Int := (openF t 0 cs).map fun n : Nat => (n : Int)
theorem callsF_next {l : List Nt} {k : Nat} {x : Nt} (h : l[k]? = some x) : callsF 0 (l.take (k + 1)) = (callsF 0 (l.take k)).map (fun c => c.touch k x) ++ (if x.w = 1 then [⟨x.t, x.o, k, -1, 0, []⟩] else []) := by
  have hk : k < l.length := (List.getElem?_eq_some_iff.1 h).1
  rw [List.take_add_one, h]
  show callsF 0 (l.take k ++ [x]) = _
  rw [callsF_snoc x _ 0 (Int.le_refl 0), List.length_take, Nat.min_eq_left (Nat.le_of_lt hk), Int.zero_add]
theorem ix_call {x : Nt} {i : Int} (h1 : x.w = 1) (cs : List Cal) : ixOf (cs.map (fun c => c.touch i x) ++ [⟨x.t, x.o, i, -1, 0, []⟩]) = updM (ixOf cs) x.t (ixOf cs x.t ++ [(cs.length : Int)]) := by
  funext t
  unfold ixOf
  rw [open_call h1, List.map_append]
  by_cases e : t = x.t
  · subst e; rw [updM_same, if_pos rfl]; rfl
  · rw [updM_other _ _ e, if_neg (fun h => e h.symm)]; exact List.append_nil _
theorem ix_ret {x : Nt} {i : Int} (hi : 0 ≤ i) (h : x.w = 11) (cs : List Cal) : ixOf (cs.map fun c => c.touch i x) = updM (ixOf cs) x.t [] := by
  funext t
  unfold ixOf
  rw [open_ret hi h]
  by_cases e : t = x.t
  · subst e; rw [updM_same, if_pos rfl]; rfl
  · rw [updM_other _ _ e, if_neg e]
theorem ix_pnt {x : Nt} {i : Int} (h : ¬ x.w = 11) (cs : List Cal) : ixOf (cs.map fun c => c.touch i x) = ixOf cs := by
  funext t
  unfold ixOf
  rw [open_pnt h]
theorem callsF_take (l : List Nt) (k : Nat) : (callsF 0 (l.take k)).length ≤ k := Nat.le_trans (callsF_len _ _) (by rw [List.length_take]; omega)
theorem wp_dropS {w : World} {ops : Array Oper} {rest : List Oper} {o : Oper} {a : Act} {Q : Exit → Act → World → Prop} (hg : o.guard = none) (m x : Operand) (hop : o.op = Op.call { callee := Callee.builtin Builtin.delete, args := #[m, x], argTypes := #[71, 3] })
    {base M n : Nat} {cv : Value} {cs : List Cal} {ix : Int → List Int} {V : Int → Value} (hm : a.eval m = .map (some M)) (h : RcS base w M n cv cs ix V) {t : Int} (hx : a.eval x = .int .i64 t) (hw : (Lit.int .i64 t).wf = true)
    (hK : ∀ w', RcS base w' M n cv cs (updM ix t []) (updM V t (.slice none 0 0)) → Only (· = M) w w' → wpList Tryz.prog ops Q rest (a.put o.dst (.tuple #[])) w') : wpList Tryz.prog ops Q (o :: rest) a w := by
  refine wpList_plain hg fun K' hK' => ?_
  obtain ⟨w', hrun, r1, r2⟩ := h.drop hw o.type
  unfold Oper.wp
  simp [execOp, hop, resolve, invoke, builtin, hm, hx, hrun, Result.andThen]
  exact hK' _ _ (hK w' r1 r2)
/-- The state at the loop's head. -/
structure RcI (w : World) (l : List Nt) (k : Nat) (p : Value) (wr : World) : Prop where
  s : ∃ n V, n ≤ k ∧ RcS (w.heap.size + 1) wr w.heap.size n p (callsF 0 (l.take k)) (ixOf (callsF 0 (l.take k))) V
  o : Only Nil w wr
set_option maxRecDepth 100000 in
set_option maxHeartbeats 4000000 in
theorem rcCalls_any (A : Option Addr) (m cap : Nat) (l : List Nt) (w : World) (hl : l.length = m) (hN : Notes w A l) (hwf : ∀ x ∈ l, (Lit.int .i64 x.t).wf = true) (hm : m ≤ 2000) :
    Calls Tryz.prog 8 #[.slice A m cap] w fun e w' => ∃ cv, e = .returned cv ∧ CalsAt w' cv (callsF 0 l) ∧ Only Nil w w' := by
  have HZ := Lib.hid hl
  have HN := Lib.hid hN
  have HWF := Lib.hid hwf
  have HM := Lib.hid hm
  have q0 : (m : Int) ≤ 9223372036854775806 := by omega
  have hmm := @run_makeMap Tryz.prog
  clear hl hN hwf hm
  go_enter Tryz.func8, Tryz.ntmps8
  go_wp2_with fail
  go_loopw [3, 14] (fun p i wr => ∃ k : Nat, k ≤ m ∧ i = .int .i64 k ∧ RcI w l k p wr) (fun _ i _ => m - (intOf i).toNat)
  case atStart => exact ⟨0, Nat.zero_le _, rfl, ⟨0, fun _ => .slice none 0 0, Nat.le_refl _, rcs_made w⟩, (Only.refl _ _).alloc _⟩
  case round =>
    rename_i p i
    obtain ⟨k, hk, rfl, HI⟩ := hrel
    obtain ⟨n, V, hn, hS⟩ := HI.s
    have hO := HI.o
    clear HI
    obtain ⟨A1, cap1, rfl⟩ := hS.form
    by_cases hlt : k < m
    · obtain ⟨x, hx⟩ : ∃ x, l[k]? = some x := ⟨_, List.getElem?_eq_getElem (by rw [HZ.out]; exact hlt)⟩
      have HNX := Lib.hid (callsF_next hx)
      have HCL := Lib.hid (callsF_take l k)
      have HPT := Lib.hid (fun c (hc : c ∈ callsF 0 (l.take k)) => show c.ps.length ≤ k from Nat.le_trans (calls_pts _ _ hc) (by rw [List.length_take]; omega))
      have HWX := Lib.hid (HWF.out x (List.mem_of_getElem? hx))
      obtain ⟨b, q, rfl, hb, hat⟩ := (HN.out.only hO) (by rw [HZ.out]; omega)
      obtain ⟨f0, f1, f2, f3⟩ := hat k x hx
      have e1 := (Only.refl Nil wr).alloc (.cells #[.int .i64 x.t, .int .i64 x.w, .int .i64 x.o, .int .i64 x.a] 59)
      have HS := Lib.hid (hS.only e1)
      have HO := Lib.hid (hO.trans e1)
      have HR := Lib.hid (Row.new wr 59 #[.int .i64 x.t, .int .i64 x.w, .int .i64 x.o, .int .i64 x.a])
      have HK := Lib.hid (And.intro hn (And.intro hlt hS.lt))
      clear hat hx hS hO e1 hn hk
      generalize hc1 : callsF 0 (l.take (k + 1)) = cs1 at *
      have HC1 := Lib.hid hc1
      clear hc1
      generalize callsF 0 (l.take k) = cs at *
      go_upto_region 6 with (fail)
      clear f0 f1 f2 f3
      generalize wr.alloc _ = w1 at *
      generalize hX : wr.heap.size = X at *
      have c0 : w1.cell? ⟨X, 0, none⟩ = some (.int .i64 x.t) := HR.out.cell_ (i := 0) rfl
      have c1 : w1.cell? ⟨X, 1, none⟩ = some (.int .i64 x.w) := HR.out.cell_ (i := 1) rfl
      have c2 : w1.cell? ⟨X, 2, none⟩ = some (.int .i64 x.o) := HR.out.cell_ (i := 2) rfl
      have c3 : w1.cell? ⟨X, 3, none⟩ = some (.int .i64 x.a) := HR.out.cell_ (i := 3) rfl
      by_cases hw1 : x.w = 1
      · have HW1 := Lib.hid hw1
        obtain ⟨hlk, hown, hput⟩ := HS.out.look HWX.out
        generalize V x.t = v0 at *
        obtain ⟨Av, cpv, rfl, _⟩ := ownI_form hown
        have HPU := Lib.hid hput
        have HOW := Lib.hid hown
        have HLK := Lib.hid hlk
        have HIL := Lib.hid (show (ixOf cs x.t).length ≤ 1000000 by unfold ixOf; rw [List.length_map]; have h1 := openF_len (t := x.t) cs 0; have h2 := HCL.out; have h3 := HK.out.2.1; have h4 := HM.out; omega)
        have HLN := Lib.hid (show cs.length ≤ 2000 by have h2 := HCL.out; have h3 := HK.out.2.1; have h4 := HM.out; omega)
        clear hlk hown hput
        go_upto_region 13 with (fail)
        generalize hLL : (ixOf cs x.t).length = L at *
        have HLL := Lib.hid hLL
        clear hLL
        generalize hNN : cs.length = N at *
        have HNN := Lib.hid hNN
        clear hNN
        refine wp_region_phase (n := 11) 10 (fun w' => w'.cell? ⟨X, 0, none⟩ = some (.int .i64 x.t) ∧ (Instr.lookup 71 (.map (some w.heap.size)) (.int .i64 x.t) false).run Tryz.prog w' = .ok (.slice Av L cpv) w') rfl (by kernel_rfl) ⟨c0, HLK.out _ ((Only.refl _ _).drew)⟩ (fun hHeld => ?_)
        clear c0 c1 c2 c3
        refine zt 0 rfl ?_
        refine zt 1 rfl ?_
        refine zt 2 rfl ?_
        refine zt 3 rfl ?_
        refine zt 4 rfl ?_
        refine zt 5 rfl ?_
        refine zt 6 rfl ?_
        refine zt 7 rfl ?_
        refine zt 8 rfl ?_
        refine mpc 9 rfl (by kernel_rfl) (by rfl) (fun K hK => ?_)
        go_simp
        refine (growI_any _ (ixOf cs x.t) N (w.heap.size + 1) _ (own_only HOW.out ((Only.refl Nil w1).drew) (fun _ _ => id)) (by have h1 := HK.out.2.2; have h2 := HR.out.lt; show w.heap.size + 1 ≤ w1.heap.size; omega) (by rw [HLL.out]; exact HIL.out)).mono ?_
        rintro e w2 ⟨v', rfl, hv', hg⟩
        have hg1 : Grown w1 (.slice Av L cpv) v' w2 := ⟨((Only.refl _ w1).drew).trans hg.1, hg.2⟩
        have hx2 := HR.out.only hg1.1 (fun e => by
          obtain ⟨c9, r9⟩ := ownI_tag HOW.out e
          exact row_apart HR.out r9 (by decide) rfl)
        refine hK.out _ _ (.inr ⟨hx2.cell_ (i := 0) rfl, HLK.out w2 hg1.1⟩) ?_
        obtain ⟨w3, hrun, hs3, ho3⟩ := HPU.out w2 v' hg1 hv' (by have h1 := HK.out.1; have h3 := HK.out.2.1; have h4 := HM.out; omega)
        have HS3 := Lib.hid hs3
        have HO3 := Lib.hid (And.intro hg1.1 ho3)
        have HX2 := Lib.hid hx2
        clear hK K hHeld hg hg1 hx2 hv' hs3 ho3 HPU
        refine mpc 10 rfl (by kernel_rfl) (by rfl) (fun K hK => ?_)
        go_simp
        refine hK.out _ _ (.inl (by kernel_rfl)) ?_
        clear hK K hrun
        refine wpAnyP_done (by kernel_rfl) ?_ _
        have HX3 := Lib.hid (HR.out.only HO3.out.2 (fun e => by
          rcases e with e | e
          · obtain ⟨c9, r9⟩ := ownI_tag HOW.out e
            exact row_apart HR.out r9 (by decide) rfl
          · have := HK.out.2.2; omega))
        have HOO := Lib.hid (HO.out.step HO3.out.2 (fun i hi e => by
          rcases e with e | e
          · have := (HOW.out.lt i e).1; omega
          · omega))
        clear HO HO3 HX2 HLK HOW HS HR
        have c0 : w3.cell? ⟨X, 0, none⟩ = some (.int .i64 x.t) := HX3.out.cell_ (i := 0) rfl
        have c1 : w3.cell? ⟨X, 1, none⟩ = some (.int .i64 x.w) := HX3.out.cell_ (i := 1) rfl
        have c2 : w3.cell? ⟨X, 2, none⟩ = some (.int .i64 x.o) := HX3.out.cell_ (i := 2) rfl
        have c3 : w3.cell? ⟨X, 3, none⟩ = some (.int .i64 x.a) := HX3.out.cell_ (i := 3) rfl
        go_upto_region 14 with (fail)
        go_wp2_with fail
        obtain ⟨zs, hzs, hzl, hnext⟩ := HS3.out.call ⟨x.t, x.o, k, -1, 0, []⟩ rfl
        have HNX4 := Lib.hid hnext
        refine (growC_any _ zs ⟨x.t, x.o, k, -1, 0, []⟩ (.slice none 0 0) rfl (w.heap.size + 1) w3 hzs (by have h1 := HS3.out.lt; omega) (by have h1 := HLN.out; have h2 := HNN.out; omega)).mono ?_
        rintro e w4 ⟨v4, rfl, hv4, hg4⟩
        have HS4 := Lib.hid (HNX4.out v4 w4 hg4 hv4)
        have HO4 := Lib.hid (HOO.out.step hg4.1 (fun i hi e => by have := (World.ownsRow.lt hzs i e).1; omega))
        clear hzs hzl hnext HNX4 hv4 hg4 c0 c1 c2 c3
        have HRI := Lib.hid (show RcI w l (k + 1) v4 w4 from ⟨⟨n + 1, _, by have := HK.out.1; omega, by
          rw [HC1.out, HNX.out, if_pos HW1.out, ix_call HW1.out, touch_call HW1.out, HNN.out]; exact HS4.out⟩, HO4.out⟩)
        have HLT := Lib.hid HK.out.2.1
        clear HS4 HO4 HS3 HOO HX3
        go_wp2
        exact ⟨⟨k + 1, by have := HLT.out; omega, by go_num, HRI.out⟩, by have := HLT.out; simp [intOf]; omega⟩
      · have HW1 := Lib.hid hw1
        by_cases hw11 : x.w = 11
        · have HW11 := Lib.hid hw11
          have hown := HS.out.places HWX.out
          generalize hV0 : V x.t = v0 at *
          obtain ⟨Av, cpv, rfl, hI⟩ := ownI_form hown
          have HIX := Lib.hid (show ∀ (j : Nat) (n : Nat), (openF x.t 0 cs)[j]? = some n → (ixOf cs x.t).getD j 0 = n ∧ n < cs.length from fun j n h => ⟨by unfold ixOf; rw [List.getD_eq_getElem?_getD, List.getElem?_map, h]; rfl, by have := openF_lt (t := x.t) cs 0 n (List.mem_of_getElem? h); omega⟩)
          have HLN := Lib.hid (show (ixOf cs x.t).length = (openF x.t 0 cs).length ∧ (ixOf cs x.t).length ≤ 2000 from ⟨by unfold ixOf; rw [List.length_map], by unfold ixOf; rw [List.length_map]; have h1 := openF_len (t := x.t) cs 0; have h2 := HCL.out; have h3 := HK.out.2.1; have h4 := HM.out; omega⟩)
          have hlk := (HS.out.look HWX.out).1 w1 (Only.refl _ _)
          rw [hV0] at hlk
          have HV0 := Lib.hid hV0
          clear hV0
          generalize hLL : (ixOf cs x.t).length = L at *
          have HLL := Lib.hid hLL
          clear hLL
          generalize hNN : cs.length = N at *
          have HNN := Lib.hid hNN
          clear hNN hown hI
          go_upto_region 17 with (fail)
          clear hlk c0 c1 c2 c3 hw1 hw11
          have HB0 := Lib.hid (And.intro HS.out (And.intro HO.out HR.out))
          have q1 : (L : Int) ≤ 9223372036854775806 := by have := HLN.out.2; omega
          clear HS HO HR
          go_loopw [69] (fun jv wq => ∃ j : Nat, j ≤ L ∧ jv = .int .i64 j ∧ Hid (RcS (w.heap.size + 1) wq w.heap.size n (.slice A1 N cap1) (bump (retU k x.a) ((openF x.t 0 cs).take j) cs) (ixOf cs) V ∧ Only Nil w wq ∧ Row wq X 59 #[.int .i64 x.t, .int .i64 x.w, .int .i64 x.o, .int .i64 x.a])) (fun jv _ => L - (intOf jv).toNat)
          case atStart => exact ⟨0, Nat.zero_le _, rfl, HB0⟩
          case round =>
            clear HB0
            obtain ⟨j, hj, rfl, HB⟩ := hrel
            by_cases hjl : j < L
            · obtain ⟨i, hi⟩ : ∃ i, (openF x.t 0 cs)[j]? = some i := ⟨_, List.getElem?_eq_getElem (by rw [← HLN.out.1]; exact hjl)⟩
              obtain ⟨hiv, hin⟩ := HIX.out j i hi
              have htk : (openF x.t 0 cs).take (j + 1) = (openF x.t 0 cs).take j ++ [i] := by rw [List.take_add_one, hi]; rfl
              have HBN := Lib.hid (show bump (retU k x.a) ((openF x.t 0 cs).take (j + 1)) cs = modN (retU k x.a) i (bump (retU k x.a) ((openF x.t 0 cs).take j) cs) by rw [htk, bump_snoc])
              have hbl := bump_len (retU k x.a) ((openF x.t 0 cs).take j) cs
              clear htk hi
              generalize bump (retU k x.a) ((openF x.t 0 cs).take j) cs = bs at *
              generalize hc1 : bump (retU k x.a) ((openF x.t 0 cs).take (j + 1)) cs = bs1 at *
              have HC2 := Lib.hid hc1
              clear hc1
              obtain ⟨c, hc⟩ : ∃ c, bs[i]? = some c := ⟨_, List.getElem?_eq_getElem (by rw [hbl, HNN.out]; exact hin)⟩
              obtain ⟨g, c9, p9, e9, hi9, ⟨cur, hr, hcs⟩, _, _⟩ := HB.out.1.at_ hc
              injection e9 with e9 e10 e11
              subst e9
              have hpl := HB.out.1.places HWX.out
              rw [HV0.out] at hpl
              obtain ⟨A8, c8, e8, hI⟩ := ownI_form hpl
              injection e8 with e8 e8b e8c
              subst e8
              clear e8b e8c
              obtain ⟨b9, o9, rfl, hb9, hcell⟩ := hI (by rw [HLL.out]; omega)
              have d9 := hcell j (by rw [HLL.out]; exact hjl)
              rw [hiv] at d9
              have d3 : wr.cell? ⟨g, i * 6 + 3, none⟩ = some (.int .i64 c.g) := hr.cell_ (hcs 3 _ rfl)
              have d4 : wr.cell? ⟨g, i * 6 + 4, none⟩ = some (.int .i64 c.r) := hr.cell_ (hcs 4 _ rfl)
              have r3 := hr.frozen (i * 6 + 3)
              have r4 := hr.frozen (i * 6 + 4)
              have c3 : wr.cell? ⟨X, 3, none⟩ = some (.int .i64 x.a) := HB.out.2.2.cell_ (i := 3) rfl
              have HC9 := Lib.hid hc
              have HJL := Lib.hid (And.intro hjl hin)
              have HRW := Lib.hid (And.intro hr hcs)
              have HGX := Lib.hid (And.intro (row_apart HB.out.2.2 hr (by decide)) (show w.heap.size ≤ g by have := hi9.2; omega))
              have q5 : (i : Int) < N := by omega
              have q6 : (0 : Int) ≤ i := by omega
              have q7 : (i : Int).toNat = i := rfl
              have q8 : (j : Int) < L := by omega
              clear hpl hI hcell hiv hbl hj hc hi9 hcs hr hb9 e10 e11
              go_upto_region 19 with (fail)
              clear d9
              refine wp_region_held_drew (S := fun w' => w'.cell? ⟨X, 3, none⟩ = some (.int .i64 x.a)) (by kernel_rfl) c3 (fun hHeld => ?_)
              refine zk 0 rfl ?_
              refine zk 1 rfl ?_
              refine zk 2 rfl ?_
              refine zk 3 rfl ?_
              refine zk 4 rfl ?_
              refine zk 5 rfl ?_
              refine zk 6 rfl ?_
              refine zk 7 rfl ?_
              refine zk 8 rfl ?_
              refine mcl 9 rfl (by kernel_rfl) (by rfl) (fun K hK => ?_)
              go_simp
              have s1 := (HB.out.1.set rfl HC9.out (x' := { c with g := (k : Int) }) (j := 3) (u := .int .i64 k) (by decide) (fun _ => rfl) rfl).only ((Only.refl Nil _).drew)
              have o1 := (HB.out.2.1.setCell (p := ⟨g, i * 6 + 3, none⟩) (.inl HGX.out.2) (.int .i64 k)).drew
              have x1 := (HB.out.2.2.far (p := ⟨g, i * 6 + 3, none⟩) HGX.out.1 (.int .i64 k)).drew
              refine hK.out _ _ (x1.cell_ (i := 3) rfl) (fun hHeld2 => ?_)
              clear hK K hHeld
              have d5 := ((HRW.out.1.set (i * 6 + 3) (.int .i64 k)).drew).cell_ (i := i * 6 + 4) (by rw [Array.getElem?_setIfInBounds_ne (by omega)]; exact HRW.out.2 4 _ rfl)
              have r5 := ((HRW.out.1.set (i * 6 + 3) (.int .i64 k)).drew).frozen (i * 6 + 4)
              have HS1 := Lib.hid s1
              have HX1 := Lib.hid (And.intro o1 x1)
              clear s1 o1 x1 d3 d4 r3 r4 c3 HB
              generalize (wr.setCell ⟨g, i * 6 + 3, none⟩ (.int .i64 k)).drew = w5 at *
              refine zk 10 rfl ?_
              refine zk 11 rfl ?_
              refine mcl 12 rfl (by kernel_rfl) (by rfl) (fun K hK => ?_)
              go_simp
              have s2 := HS1.out.set rfl (List.getElem?_set_self (by have := (List.getElem?_eq_some_iff.1 HC9.out).1; exact this)) (x' := { c with g := (k : Int), r := x.a }) (j := 4) (u := .int .i64 x.a) (by decide) (fun _ => rfl) rfl
              have o2 := HX1.out.1.setCell (p := ⟨g, i * 6 + 4, none⟩) (.inl HGX.out.2) (.int .i64 x.a)
              have x2 := HX1.out.2.far (p := ⟨g, i * 6 + 4, none⟩) HGX.out.1 (.int .i64 x.a)
              refine hK.out _ _ (x2.cell_ (i := 3) rfl) (fun hHeld3 => ?_)
              rw [List.set_set] at s2
              have HB2 := Lib.hid (And.intro (show RcS (w.heap.size + 1) (w5.setCell ⟨g, i * 6 + 4, none⟩ (.int .i64 x.a)) w.heap.size n (.slice (some ⟨g, 0, none⟩) N cap1) bs1 (ixOf cs) V by rw [HBN.out, modN_set (retU k x.a) bs i c HC9.out]; exact s2) (And.intro o2 x2))
              clear hK K hHeld2 hHeld3 s2 o2 x2 d5 r5 HS1 HX1
              generalize w5.setCell ⟨g, i * 6 + 4, none⟩ (.int .i64 x.a) = w6 at *
              refine wpAnyH_done (by kernel_rfl) ?_ _
              go_wp2
              go_roundw
              case rel => exact ⟨j + 1, by have := HJL.out.1; omega, by go_num, by rw [HC2.out]; exact HB2⟩
              case measure => have := HJL.out.1; simp [intOf]; omega
            · obtain rfl : L = j := by omega
              have HB2 := Lib.hid (show RcS (w.heap.size + 1) wr w.heap.size n (.slice A1 N cap1) (cs.map fun c => c.touch k x) (ixOf cs) V ∧ Only Nil w wr from ⟨by
                have h := HB.out.1
                rw [List.take_of_length_le (by have := HLN.out.1; have := HLL.out; omega), ← touch_ret HW11.out] at h
                exact h, HB.out.2.1⟩)
              have c0 : wr.cell? ⟨X, 0, none⟩ = some (.int .i64 x.t) := HB.out.2.2.cell_ (i := 0) rfl
              clear HB hj hjl
              go_wp2_with (at_delete; refine wp_dropS rfl (.tmp 85) (.tmp 87) rfl rfl HB2.out.1 rfl HWX.out ?_)
              intro w5 hs5 ho5
              have HO5 := Lib.hid (HB2.out.2.step ho5 (fun i hi e => by omega))
              have HS5 := Lib.hid hs5
              clear hs5 ho5 HB2 c0
              have HRI := Lib.hid (show RcI w l (k + 1) (.slice A1 N cap1) w5 from ⟨⟨n, _, by have := HK.out.1; omega, by
                rw [HC1.out, HNX.out, if_neg HW1.out, List.append_nil, ix_ret (show (0 : Int) ≤ k by omega) HW11.out]; exact HS5.out⟩, HO5.out⟩)
              have HLT := Lib.hid HK.out.2.1
              clear HS5 HO5
              go_wp2
              exact ⟨⟨k + 1, by have := HLT.out; omega, by go_num, HRI.out⟩, by have := HLT.out; simp [intOf]; omega⟩
        · have HW11 := Lib.hid hw11
          have hown := HS.out.places HWX.out
          generalize hV0 : V x.t = v0 at *
          obtain ⟨Av, cpv, rfl, hI⟩ := ownI_form hown
          have HIX := Lib.hid (show ∀ (j : Nat) (n : Nat), (openF x.t 0 cs)[j]? = some n → (ixOf cs x.t).getD j 0 = n ∧ n < cs.length from fun j n h => ⟨by unfold ixOf; rw [List.getD_eq_getElem?_getD, List.getElem?_map, h]; rfl, by have := openF_lt (t := x.t) cs 0 n (List.mem_of_getElem? h); omega⟩)
          have HLN := Lib.hid (show (ixOf cs x.t).length = (openF x.t 0 cs).length ∧ (ixOf cs x.t).length ≤ 2000 from ⟨by unfold ixOf; rw [List.length_map], by unfold ixOf; rw [List.length_map]; have h1 := openF_len (t := x.t) cs 0; have h2 := HCL.out; have h3 := HK.out.2.1; have h4 := HM.out; omega⟩)
          have hlk := (HS.out.look HWX.out).1 w1 (Only.refl _ _)
          rw [hV0] at hlk
          have HV0 := Lib.hid hV0
          clear hV0
          generalize hLL : (ixOf cs x.t).length = L at *
          have HLL := Lib.hid hLL
          clear hLL
          generalize hNN : cs.length = N at *
          have HNN := Lib.hid hNN
          clear hNN hown hI
          go_upto_region 8 with (fail)
          rw [show (x.w == 1) = false by simpa using hw1, show (x.w == 11) = false by simpa using hw11]
          clear hlk c0 c1 c2 c3 hw1 hw11
          have HB0 := Lib.hid (And.intro HS.out (And.intro HO.out HR.out))
          have q1 : (L : Int) ≤ 9223372036854775806 := by have := HLN.out.2; omega
          clear HS HO HR
          go_loopw [26] (fun jv wq => ∃ j : Nat, j ≤ L ∧ jv = .int .i64 j ∧ Hid (RcS (w.heap.size + 1) wq w.heap.size n (.slice A1 N cap1) (bump (pntU k) ((openF x.t 0 cs).take j) cs) (ixOf cs) V ∧ Only Nil w wq)) (fun jv _ => L - (intOf jv).toNat)
          case atStart => exact ⟨0, Nat.zero_le _, rfl, Lib.hid ⟨HB0.out.1, HB0.out.2.1⟩⟩
          case round =>
            clear HB0
            obtain ⟨j, hj, rfl, HB⟩ := hrel
            by_cases hjl : j < L
            · obtain ⟨i, hi⟩ : ∃ i, (openF x.t 0 cs)[j]? = some i := ⟨_, List.getElem?_eq_getElem (by rw [← HLN.out.1]; exact hjl)⟩
              obtain ⟨hiv, hin⟩ := HIX.out j i hi
              have htk : (openF x.t 0 cs).take (j + 1) = (openF x.t 0 cs).take j ++ [i] := by rw [List.take_add_one, hi]; rfl
              have HBN := Lib.hid (show bump (pntU k) ((openF x.t 0 cs).take (j + 1)) cs = modN (pntU k) i (bump (pntU k) ((openF x.t 0 cs).take j) cs) by rw [htk, bump_snoc])
              have hbl := bump_len (pntU k) ((openF x.t 0 cs).take j) cs
              have HBP := Lib.hid (fun c (hc : c ∈ bump (pntU k) ((openF x.t 0 cs).take j) cs) => bump_pts (k : Int) cs (fun c hc => (HPT.out c hc)) ((openF x.t 0 cs).take j) c hc)
              clear htk hi
              generalize hbb : bump (pntU k) ((openF x.t 0 cs).take j) cs = bs at *
              clear hbb
              generalize hc1 : bump (pntU k) ((openF x.t 0 cs).take (j + 1)) cs = bs1 at *
              have HC2 := Lib.hid hc1
              clear hc1
              obtain ⟨c, hc⟩ : ∃ c, bs[i]? = some c := ⟨_, List.getElem?_eq_getElem (by rw [hbl, HNN.out]; exact hin)⟩
              obtain ⟨g, c9, p9, e9, hi9, ⟨cur, hr, hcs⟩, hp9, hnx⟩ := HB.out.1.at_ hc
              injection e9 with e9 e10 e11
              subst e9
              have hpl := HB.out.1.places HWX.out
              rw [HV0.out] at hpl
              obtain ⟨A8, c8, e8, hI⟩ := ownI_form hpl
              injection e8 with e8 e8b e8c
              subst e8
              clear e8b e8c
              obtain ⟨b9, o9, rfl, hb9, hcell⟩ := hI (by rw [HLL.out]; omega)
              have d9 := hcell j (by rw [HLL.out]; exact hjl)
              rw [hiv] at d9
              obtain ⟨B9, k9, rfl, hI9⟩ := ownI_form hp9
              have d5 : wr.cell? ⟨g, i * 6 + 5, none⟩ = some (.slice B9 c.ps.length k9) := hr.cell_ (hcs 5 _ rfl)
              have HC9 := Lib.hid hc
              have HNX9 := Lib.hid hnx
              have HP9 := Lib.hid hp9
              have HJL := Lib.hid (And.intro hjl hin)
              have HRW := Lib.hid (And.intro hr hcs)
              have HGX := Lib.hid hi9.2
              have HPL := Lib.hid (show c.ps.length ≤ 1000000 by have h1 := HBP.out c (List.mem_of_getElem? hc); have h2 := HM.out; have h3 := HK.out.2.1; have h4 := List.length_take_le j (openF x.t 0 cs); have h5 := HLN.out; omega)
              have q5 : (i : Int) < N := by omega
              have q6 : (0 : Int) ≤ i := by omega
              have q7 : (i : Int).toNat = i := rfl
              have q8 : (j : Int) < L := by omega
              clear hpl hI hcell hiv hbl hj hc hi9 hcs hr hb9 e10 e11 hnx hp9 hI9
              generalize hPN : c.ps.length = PN at *
              have HPN := Lib.hid hPN
              clear hPN
              go_wp2_with fail
              refine (growI_any _ c.ps k (w.heap.size + 1) wr HP9.out (by have := HB.out.1.lt; omega) (by rw [HPN.out]; exact HPL.out)).mono ?_
              rintro e w2 ⟨v', rfl, hv', hg⟩
              obtain ⟨ho2, hs2⟩ := HNX9.out w2 v' k hg hv'
              have hr2 := HRW.out.1.only hg.1 (fun e => by
                obtain ⟨c7, r7⟩ := ownI_tag HP9.out e
                exact row_apart HRW.out.1 r7 (by decide) rfl)
              have d6 : w2.cell? ⟨g, i * 6 + 5, none⟩ = some (.slice B9 PN k9) := hr2.cell_ (HRW.out.2 5 _ rfl)
              have d7 := hr2.frozen (i * 6 + 5)
              have HB2 := Lib.hid (And.intro (show RcS (w.heap.size + 1) (w2.setCell ⟨g, i * 6 + 5, none⟩ v') w.heap.size n (.slice (some ⟨g, 0, none⟩) N cap1) bs1 (ixOf cs) V by rw [HBN.out, modN_set (pntU k) bs i c HC9.out]; exact hs2) (HB.out.2.step ho2 (fun i hi e => by
                rcases e with e | e
                · have := (HP9.out.lt i e).1; omega
                · have := HGX.out; omega)))
              obtain ⟨B7, k7, e7, _⟩ := ownI_form hv'
              rw [List.length_append, List.length_singleton, HPN.out] at e7
              subst e7
              clear hv' hg ho2 hs2 hr2 HNX9 HP9 HB d5 HRW
              go_wp2
              go_roundw
              case rel => exact ⟨j + 1, by have := HJL.out.1; omega, by go_num, by rw [HC2.out]; exact HB2⟩
              case measure => have := HJL.out.1; simp [intOf]; omega
            · obtain rfl : L = j := by omega
              have HRI := Lib.hid (show RcI w l (k + 1) (.slice A1 N cap1) wr from ⟨⟨n, _, by have := HK.out.1; omega, by
                have h := HB.out.1
                rw [List.take_of_length_le (by have := HLN.out.1; have := HLL.out; omega), ← touch_pnt HW11.out HW1.out] at h
                rw [HC1.out, HNX.out, if_neg HW1.out, List.append_nil, ix_pnt HW11.out]; exact h⟩, HB.out.2⟩)
              have HLT := Lib.hid HK.out.2.1
              clear HB hj hjl
              go_wp2
              exact ⟨⟨k + 1, by have := HLT.out; omega, by go_num, HRI.out⟩, by have := HLT.out; simp [intOf]; omega⟩
    · obtain rfl : k = m := by omega
      have HE := Lib.hid (show l.take k = l by rw [← HZ.out]; exact List.take_length)
      have HC := Lib.hid (show CalsAt wr (.slice A1 (callsF 0 (l.take k)).length cap1) (callsF 0 l) from by have h := hS.cals; rw [HE.out] at h ⊢; exact h)
      have HO := Lib.hid hO
      clear hS hO hlt hk hn HE
      go_wp2
      go_ret
      exact ⟨_, rfl, HC.out, HO.out⟩
end Go.Proofs.YtigdbokfapedcaaGreat

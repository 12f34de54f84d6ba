import Derived.RegionTactic
import Derived.BigRegion
import Derived.Deep.Cut
import Derived.BigQuiet
import Derived.Test.YtigdbokfapedcaaChecked
import Derived.Sort.Grow
import Derived.Laws.Strings3
import Derived.IntWalk
import Derived.Test.YtigdbokfapedcaaG3
import Derived.Test.YtigdbokfapedcaaG6
import Derived.Test.YtigdbokfapedcaaG1
set_option linter.unusedVariables false
set_option linter.unusedSimpArgs false
namespace Go.Proofs.Ytigdbokfapedcaa
open Go.RowKit
def ixOf (cs : List Cal) (t : Int) : List Int := (openF t 0 cs).map fun n : Nat => (n : Int)
theorem callsF_next {l : List Nt} {k : Nat} {x : Nt} (h : l[k]? = some x) : callsF 0 (l.take (k + 1)) = (callsF 0 (l.take k)).map (fun c => c.touch k x) ++ (if x.w = 1 then [⟨x.t, x.o, k, -1, 0, []⟩] else []) := by
  have hk : k < l.length := (List.getElem?_eq_some_iff.1 h).1
  rw [List.take_add_one, h]
  show callsF 0 (l.take k ++ [x]) = _
  rw [callsF_snoc x _ 0 (Int.le_refl 0), List.length_take, Nat.min_eq_left (Nat.le_of_lt hk), Int.zero_add]
theorem ix_call {x : Nt} {i : Int} (h1 : x.w = 1) (cs : List Cal) : ixOf (cs.map (fun c => c.touch i x) ++ [⟨x.t, x.o, i, -1, 0, []⟩]) = updM (ixOf cs) x.t (ixOf cs x.t ++ [(cs.length : Int)]) := by
  funext t
  unfold ixOf
  rw [open_call h1, List.map_append]
  by_cases e : t = x.t
  · subst e; rw [updM_same, if_pos rfl]; rfl
  · rw [updM_other _ _ e, if_neg (fun h => e h.symm)]; exact List.append_nil _
theorem ix_ret {x : Nt} {i : Int} (hi : 0 ≤ i) (h : x.w = 11) (cs : List Cal) : ixOf (cs.map fun c => c.touch i x) = updM (ixOf cs) x.t [] := by
  funext t
  unfold ixOf
  rw [open_ret hi h]
  by_cases e : t = x.t
  · subst e; rw [updM_same, if_pos rfl]; rfl
  · rw [updM_other _ _ e, if_neg e]
theorem ix_pnt {x : Nt} {i : Int} (h : ¬ x.w = 11) (cs : List Cal) : ixOf (cs.map fun c => c.touch i x) = ixOf cs := by
  funext t
  unfold ixOf
  rw [open_pnt h]
theorem callsF_take (l : List Nt) (k : Nat) : (callsF 0 (l.take k)).length ≤ k := Nat.le_trans (callsF_len _ _) (by rw [List.length_take]; omega)
theorem wp_dropS {w : World} {ops : Array Oper} {rest : List Oper} {o : Oper} {a : Act} {Q : Exit → Act → World → Prop} (hg : o.guard = none) (m x : Operand) (hop : o.op = Op.call { callee := Callee.builtin Builtin.delete, args := #[m, x], argTypes := #[42, 3] })
    {base M n : Nat} {cv : Value} {cs : List Cal} {ix : Int → List Int} {V : Int → Value} (hm : a.eval m = .map (some M)) (h : RcS base w M n cv cs ix V) {t : Int} (hx : a.eval x = .int .i64 t) (hw : (Lit.int .i64 t).wf = true)
    (hK : ∀ w', RcS base w' M n cv cs (updM ix t []) (updM V t (.slice none 0 0)) → Only (· = M) w w' → wpList Try.prog ops Q rest (a.put o.dst (.tuple #[])) w') : wpList Try.prog ops Q (o :: rest) a w := by
  refine wpList_plain hg fun K' hK' => ?_
  obtain ⟨w', hrun, r1, r2⟩ := h.drop hw o.type
  unfold Oper.wp
  simp [execOp, hop, resolve, invoke, builtin, hm, hx, hrun, Result.andThen]
  exact hK' _ _ (hK w' r1 r2)
structure RcI (w : World) (l : List Nt) (k : Nat) (p : Value) (wr : World) : Prop where
  s : ∃ n V, n ≤ k ∧ RcS (w.heap.size + 1) wr w.heap.size n p (callsF 0 (l.take k)) (ixOf (callsF 0 (l.take k))) V
  o : Only Nil w wr
set_option maxRecDepth 100000 in
set_option maxHeartbeats 4000000 in
theorem rcCalls_any (A : Option Addr) (m cap : Nat) (l : List Nt) (w : World) (hl : l.length = m) (hN : Notes w A l) (hwf : ∀ x ∈ l, (Lit.int .i64 x.t).wf = true) (hm : m ≤ 2000) :
    Calls Try.prog 8 #[.slice A m cap] w fun e w' => ∃ cv, e = .returned cv ∧ CalsAt w' cv (callsF 0 l) ∧ Only Nil w w' := by
  have HZ := Lib.hid hl
  have HN := Lib.hid hN
  have HWF := Lib.hid hwf
  have HM := Lib.hid hm
  have q0 : (m : Int) ≤ 9223372036854775806 := by omega
  have hmm := @run_makeMap Try.prog
  clear hl hN hwf hm
  go_enter Try.func8, Try.ntmps8
  go_wp2_with fail
  go_loopw [3, 14] (fun p i wr => ∃ k : Nat, k ≤ m ∧ i = .int .i64 k ∧ RcI w l k p wr) (fun _ i _ => m - (intOf i).toNat)
  case atStart => exact ⟨0, Nat.zero_le _, rfl, ⟨0, fun _ => .slice none 0 0, Nat.le_refl _, rcs_made w⟩, (Only.refl _ _).alloc _⟩
  case round =>
    rename_i p i
    obtain ⟨k, hk, rfl, HI⟩ := hrel
    obtain ⟨n, V, hn, hS⟩ := HI.s
    have hO := HI.o
    clear HI
    obtain ⟨A1, cap1, rfl⟩ := hS.form
    by_cases hlt : k < m
    · obtain ⟨x, hx⟩ : ∃ x, l[k]? = some x := ⟨_, List.getElem?_eq_getElem (by rw [HZ.out]; exact hlt)⟩
      have HNX := Lib.hid (callsF_next hx)
      have HCL := Lib.hid (callsF_take l k)
      have HPT := Lib.hid (fun c (hc : c ∈ callsF 0 (l.take k)) => show c.ps.length ≤ k from Nat.le_trans (calls_pts _ _ hc) (by rw [List.length_take]; omega))
      have HWX := Lib.hid (HWF.out x (List.mem_of_getElem? hx))
      obtain ⟨b, q, rfl, hb, hat⟩ := (HN.out.only hO) (by rw [HZ.out]; omega)
      obtain ⟨f0, f1, f2, f3⟩ := hat k x hx
      have e1 := (Only.refl Nil wr).alloc (.cells #[.int .i64 x.t, .int .i64 x.w, .int .i64 x.o, .int .i64 x.a] 41)
      have HS := Lib.hid (hS.only e1)
      have HO := Lib.hid (hO.trans e1)
      have HR := Lib.hid (Row.new wr 41 #[.int .i64 x.t, .int .i64 x.w, .int .i64 x.o, .int .i64 x.a])
      have HK := Lib.hid (And.intro hn (And.intro hlt hS.lt))
      clear hat hx hS hO e1 hn hk
      generalize hc1 : callsF 0 (l.take (k + 1)) = cs1 at *
      have HC1 := Lib.hid hc1
      clear hc1
      generalize callsF 0 (l.take k) = cs at *
      go_upto_region 6 with (fail)
      clear f0 f1 f2 f3
      generalize wr.alloc _ = w1 at *
      generalize hX : wr.heap.size = X at *
      have c0 : w1.cell? ⟨X, 0, none⟩ = some (.int .i64 x.t) := HR.out.cell_ (i := 0) rfl
      have c1 : w1.cell? ⟨X, 1, none⟩ = some (.int .i64 x.w) := HR.out.cell_ (i := 1) rfl
      have c2 : w1.cell? ⟨X, 2, none⟩ = some (.int .i64 x.o) := HR.out.cell_ (i := 2) rfl
      have c3 : w1.cell? ⟨X, 3, none⟩ = some (.int .i64 x.a) := HR.out.cell_ (i := 3) rfl
      by_cases hw1 : x.w = 1
      · have HW1 := Lib.hid hw1
        obtain ⟨hlk, hown, hput⟩ := HS.out.look HWX.out
        generalize V x.t = v0 at *
        obtain ⟨Av, cpv, rfl, _⟩ := ownI_form hown
        have HPU := Lib.hid hput
        have HOW := Lib.hid hown
        have HLK := Lib.hid hlk
        have HIL := Lib.hid (show (ixOf cs x.t).length ≤ 1000000 by unfold ixOf; rw [List.length_map]; have h1 := openF_len (t := x.t) cs 0; have h2 := HCL.out; have h3 := HK.out.2.1; have h4 := HM.out; omega)
        have HLN := Lib.hid (show cs.length ≤ 2000 by have h2 := HCL.out; have h3 := HK.out.2.1; have h4 := HM.out; omega)
        clear hlk hown hput
        go_upto_region 13 with (fail)
        generalize hLL : (ixOf cs x.t).length = L at *
        have HLL := Lib.hid hLL
        clear hLL
        generalize hNN : cs.length = N at *
        have HNN := Lib.hid hNN
        clear hNN
        refine wp_region_phase (n := 11) 10 (fun w' => w'.cell? ⟨X, 0, none⟩ = some (.int .i64 x.t) ∧ (Instr.lookup 42 (.map (some w.heap.size)) (.int .i64 x.t) false).run Try.prog w' = .ok (.slice Av L cpv) w') rfl (by kernel_rfl) ⟨c0, HLK.out _ ((Only.refl _ _).drew)⟩ (fun hHeld => ?_)
        clear c0 c1 c2 c3
        refine zt 0 rfl ?_
        refine zt 1 rfl ?_
        refine zt 2 rfl ?_
        refine zt 3 rfl ?_
        refine zt 4 rfl ?_
        refine zt 5 rfl ?_
        refine zt 6 rfl ?_
        refine zt 7 rfl ?_
        refine zt 8 rfl ?_
        refine mpc 9 rfl (by kernel_rfl) (by rfl) (fun K hK => ?_)
        go_simp
        refine (growI_any _ (ixOf cs x.t) N (w.heap.size + 1) _ (own_only HOW.out ((Only.refl Nil w1).drew) (fun _ _ => id)) (by have h1 := HK.out.2.2; have h2 := HR.out.lt; show w.heap.size + 1 ≤ w1.heap.size; omega) (by rw [HLL.out]; exact HIL.out)).mono ?_
        rintro e w2 ⟨v', rfl, hv', hg⟩
        have hg1 : Grown w1 (.slice Av L cpv) v' w2 := ⟨((Only.refl _ w1).drew).trans hg.1, hg.2⟩
        have hx2 := HR.out.only hg1.1 (fun e => by
          obtain ⟨c9, r9⟩ := ownI_tag HOW.out e
          exact row_apart HR.out r9 (by decide) rfl)
        refine hK.out _ _ (.inr ⟨hx2.cell_ (i := 0) rfl, HLK.out w2 hg1.1⟩) ?_
        obtain ⟨w3, hrun, hs3, ho3⟩ := HPU.out w2 v' hg1 hv' (by have h1 := HK.out.1; have h3 := HK.out.2.1; have h4 := HM.out; omega)
        have HS3 := Lib.hid hs3
        have HO3 := Lib.hid (And.intro hg1.1 ho3)
        have HX2 := Lib.hid hx2
        clear hK K hHeld hg hg1 hx2 hv' hs3 ho3 HPU
        refine mpc 10 rfl (by kernel_rfl) (by rfl) (fun K hK => ?_)
        go_simp
        refine hK.out _ _ (.inl (by kernel_rfl)) ?_
        clear hK K hrun
        refine wpAnyP_done (by kernel_rfl) ?_ _
        have HX3 := Lib.hid (HR.out.only HO3.out.2 (fun e => by
          rcases e with e | e
          · obtain ⟨c9, r9⟩ := ownI_tag HOW.out e
            exact row_apart HR.out r9 (by decide) rfl
          · have := HK.out.2.2; omega))
        have HOO := Lib.hid (HO.out.step HO3.out.2 (fun i hi e => by
          rcases e with e | e
          · have := (HOW.out.lt i e).1; omega
          · omega))
        clear HO HO3 HX2 HLK HOW HS HR
        have c0 : w3.cell? ⟨X, 0, none⟩ = some (.int .i64 x.t) := HX3.out.cell_ (i := 0) rfl
        have c1 : w3.cell? ⟨X, 1, none⟩ = some (.int .i64 x.w) := HX3.out.cell_ (i := 1) rfl
        have c2 : w3.cell? ⟨X, 2, none⟩ = some (.int .i64 x.o) := HX3.out.cell_ (i := 2) rfl
        have c3 : w3.cell? ⟨X, 3, none⟩ = some (.int .i64 x.a) := HX3.out.cell_ (i := 3) rfl
        go_upto_region 14 with (fail)
        go_wp2_with fail
        obtain ⟨zs, hzs, hzl, hnext⟩ := HS3.out.call ⟨x.t, x.o, k, -1, 0, []⟩ rfl
        have HNX4 := Lib.hid hnext
        refine (growC_any _ zs ⟨x.t, x.o, k, -1, 0, []⟩ (.slice none 0 0) rfl (w.heap.size + 1) w3 hzs (by have h1 := HS3.out.lt; omega) (by have h1 := HLN.out; have h2 := HNN.out; omega)).mono ?_
        rintro e w4 ⟨v4, rfl, hv4, hg4⟩
        have HS4 := Lib.hid (HNX4.out v4 w4 hg4 hv4)
        have HO4 := Lib.hid (HOO.out.step hg4.1 (fun i hi e => by have := (World.ownsRow.lt hzs i e).1; omega))
        clear hzs hzl hnext HNX4 hv4 hg4 c0 c1 c2 c3
        have HRI := Lib.hid (show RcI w l (k + 1) v4 w4 from ⟨⟨n + 1, _, by have := HK.out.1; omega, by
          rw [HC1.out, HNX.out, if_pos HW1.out, ix_call HW1.out, touch_call HW1.out, HNN.out]; exact HS4.out⟩, HO4.out⟩)
        have HLT := Lib.hid HK.out.2.1
        clear HS4 HO4 HS3 HOO HX3
        go_wp2
        exact ⟨⟨k + 1, by have := HLT.out; omega, by go_num, HRI.out⟩, by have := HLT.out; simp [intOf]; omega⟩
      · have HW1 := Lib.hid hw1
        by_cases hw11 : x.w = 11
        · have HW11 := Lib.hid hw11
          have hown := HS.out.places HWX.out
          generalize hV0 : V x.t = v0 at *
          obtain ⟨Av, cpv, rfl, hI⟩ := ownI_form hown
          have HIX := Lib.hid (show ∀ (j : Nat) (n : Nat), (openF x.t 0 cs)[j]? = some n → (ixOf cs x.t).getD j 0 = n ∧ n < cs.length from fun j n h => ⟨by unfold ixOf; rw [List.getD_eq_getElem?_getD, List.getElem?_map, h]; rfl, by have := openF_lt (t := x.t) cs 0 n (List.mem_of_getElem? h); omega⟩)
          have HLN := Lib.hid (show (ixOf cs x.t).length = (openF x.t 0 cs).length ∧ (ixOf cs x.t).length ≤ 2000 from ⟨by unfold ixOf; rw [List.length_map], by unfold ixOf; rw [List.length_map]; have h1 := openF_len (t := x.t) cs 0; have h2 := HCL.out; have h3 := HK.out.2.1; have h4 := HM.out; omega⟩)
          have hlk := (HS.out.look HWX.out).1 w1 (Only.refl _ _)
          rw [hV0] at hlk
          have HV0 := Lib.hid hV0
          clear hV0
          generalize hLL : (ixOf cs x.t).length = L at *
          have HLL := Lib.hid hLL
          clear hLL
          generalize hNN : cs.length = N at *
          have HNN := Lib.hid hNN
          clear hNN hown hI
          go_upto_region 17 with (fail)
          clear hlk c0 c1 c2 c3 hw1 hw11
          have HB0 := Lib.hid (And.intro HS.out (And.intro HO.out HR.out))
          have q1 : (L : Int) ≤ 9223372036854775806 := by have := HLN.out.2; omega
          clear HS HO HR
          go_loopw [69] (fun jv wq => ∃ j : Nat, j ≤ L ∧ jv = .int .i64 j ∧ Hid (RcS (w.heap.size + 1) wq w.heap.size n (.slice A1 N cap1) (bump (retU k x.a) ((openF x.t 0 cs).take j) cs) (ixOf cs) V ∧ Only Nil w wq ∧ Row wq X 41 #[.int .i64 x.t, .int .i64 x.w, .int .i64 x.o, .int .i64 x.a])) (fun jv _ => L - (intOf jv).toNat)
          case atStart => exact ⟨0, Nat.zero_le _, rfl, HB0⟩
          case round =>
            clear HB0
            obtain ⟨j, hj, rfl, HB⟩ := hrel
            by_cases hjl : j < L
            · obtain ⟨i, hi⟩ : ∃ i, (openF x.t 0 cs)[j]? = some i := ⟨_, List.getElem?_eq_getElem (by rw [← HLN.out.1]; exact hjl)⟩
              obtain ⟨hiv, hin⟩ := HIX.out j i hi
              have htk : (openF x.t 0 cs).take (j + 1) = (openF x.t 0 cs).take j ++ [i] := by rw [List.take_add_one, hi]; rfl
              have HBN := Lib.hid (show bump (retU k x.a) ((openF x.t 0 cs).take (j + 1)) cs = modN (retU k x.a) i (bump (retU k x.a) ((openF x.t 0 cs).take j) cs) by rw [htk, bump_snoc])
              have hbl := bump_len (retU k x.a) ((openF x.t 0 cs).take j) cs
              clear htk hi
              generalize bump (retU k x.a) ((openF x.t 0 cs).take j) cs = bs at *
              generalize hc1 : bump (retU k x.a) ((openF x.t 0 cs).take (j + 1)) cs = bs1 at *
              have HC2 := Lib.hid hc1
              clear hc1
              obtain ⟨c, hc⟩ : ∃ c, bs[i]? = some c := ⟨_, List.getElem?_eq_getElem (by rw [hbl, HNN.out]; exact hin)⟩
              obtain ⟨g, c9, p9, e9, hi9, ⟨cur, hr, hcs⟩, _, _⟩ := HB.out.1.at_ hc
              injection e9 with e9 e10 e11
              subst e9
              have hpl := HB.out.1.places HWX.out
              rw [HV0.out] at hpl
              obtain ⟨A8, c8, e8, hI⟩ := ownI_form hpl
              injection e8 with e8 e8b e8c
              subst e8
              clear e8b e8c
              obtain ⟨b9, o9, rfl, hb9, hcell⟩ := hI (by rw [HLL.out]; omega)
              have d9 := hcell j (by rw [HLL.out]; exact hjl)
              rw [hiv] at d9
              have d3 : wr.cell? ⟨g, i * 6 + 3, none⟩ = some (.int .i64 c.g) := hr.cell_ (hcs 3 _ rfl)
              have d4 : wr.cell? ⟨g, i * 6 + 4, none⟩ = some (.int .i64 c.r) := hr.cell_ (hcs 4 _ rfl)
              have r3 := hr.frozen (i * 6 + 3)
              have r4 := hr.frozen (i * 6 + 4)
              have c3 : wr.cell? ⟨X, 3, none⟩ = some (.int .i64 x.a) := HB.out.2.2.cell_ (i := 3) rfl
              have HC9 := Lib.hid hc
              have HJL := Lib.hid (And.intro hjl hin)
              have HRW := Lib.hid (And.intro hr hcs)
              have HGX := Lib.hid (And.intro (row_apart HB.out.2.2 hr (by decide)) (show w.heap.size ≤ g by have := hi9.2; omega))
              have q5 : (i : Int) < N := by omega
              have q6 : (0 : Int) ≤ i := by omega
              have q7 : (i : Int).toNat = i := rfl
              have q8 : (j : Int) < L := by omega
              clear hpl hI hcell hiv hbl hj hc hi9 hcs hr hb9 e10 e11
              go_upto_region 19 with (fail)
              clear d9
              refine wp_region_held_drew (S := fun w' => w'.cell? ⟨X, 3, none⟩ = some (.int .i64 x.a)) (by kernel_rfl) c3 (fun hHeld => ?_)
              refine zk 0 rfl ?_
              refine zk 1 rfl ?_
              refine zk 2 rfl ?_
              refine zk 3 rfl ?_
              refine zk 4 rfl ?_
              refine zk 5 rfl ?_
              refine zk 6 rfl ?_
              refine zk 7 rfl ?_
              refine zk 8 rfl ?_
              refine mcl 9 rfl (by kernel_rfl) (by rfl) (fun K hK => ?_)
              go_simp
              have s1 := (HB.out.1.set rfl HC9.out (x' := { c with g := (k : Int) }) (j := 3) (u := .int .i64 k) (by decide) (fun _ => rfl) rfl).only ((Only.refl Nil _).drew)
              have o1 := (HB.out.2.1.setCell (p := ⟨g, i * 6 + 3, none⟩) (.inl HGX.out.2) (.int .i64 k)).drew
              have x1 := (HB.out.2.2.far (p := ⟨g, i * 6 + 3, none⟩) HGX.out.1 (.int .i64 k)).drew
              refine hK.out _ _ (x1.cell_ (i := 3) rfl) (fun hHeld2 => ?_)
              clear hK K hHeld
              have d5 := ((HRW.out.1.set (i * 6 + 3) (.int .i64 k)).drew).cell_ (i := i * 6 + 4) (by rw [Array.getElem?_setIfInBounds_ne (by omega)]; exact HRW.out.2 4 _ rfl)
              have r5 := ((HRW.out.1.set (i * 6 + 3) (.int .i64 k)).drew).frozen (i * 6 + 4)
              have HS1 := Lib.hid s1
              have HX1 := Lib.hid (And.intro o1 x1)
              clear s1 o1 x1 d3 d4 r3 r4 c3 HB
              generalize (wr.setCell ⟨g, i * 6 + 3, none⟩ (.int .i64 k)).drew = w5 at *
              refine zk 10 rfl ?_
              refine zk 11 rfl ?_
              refine mcl 12 rfl (by kernel_rfl) (by rfl) (fun K hK => ?_)
              go_simp
              have s2 := HS1.out.set rfl (List.getElem?_set_self (by have := (List.getElem?_eq_some_iff.1 HC9.out).1; exact this)) (x' := { c with g := (k : Int), r := x.a }) (j := 4) (u := .int .i64 x.a) (by decide) (fun _ => rfl) rfl
              have o2 := HX1.out.1.setCell (p := ⟨g, i * 6 + 4, none⟩) (.inl HGX.out.2) (.int .i64 x.a)
              have x2 := HX1.out.2.far (p := ⟨g, i * 6 + 4, none⟩) HGX.out.1 (.int .i64 x.a)
              refine hK.out _ _ (x2.cell_ (i := 3) rfl) (fun hHeld3 => ?_)
              rw [List.set_set] at s2
              have HB2 := Lib.hid (And.intro (show RcS (w.heap.size + 1) (w5.setCell ⟨g, i * 6 + 4, none⟩ (.int .i64 x.a)) w.heap.size n (.slice (some ⟨g, 0, none⟩) N cap1) bs1 (ixOf cs) V by rw [HBN.out, modN_set (retU k x.a) bs i c HC9.out]; exact s2) (And.intro o2 x2))
              clear hK K hHeld2 hHeld3 s2 o2 x2 d5 r5 HS1 HX1
              generalize w5.setCell ⟨g, i * 6 + 4, none⟩ (.int .i64 x.a) = w6 at *
              refine wpAnyH_done (by kernel_rfl) ?_ _
              go_wp2
              go_roundw
              case rel => exact ⟨j + 1, by have := HJL.out.1; omega, by go_num, by rw [HC2.out]; exact HB2⟩
              case measure => have := HJL.out.1; simp [intOf]; omega
            · obtain rfl : L = j := by omega
              have HB2 := Lib.hid (show RcS (w.heap.size + 1) wr w.heap.size n (.slice A1 N cap1) (cs.map fun c => c.touch k x) (ixOf cs) V ∧ Only Nil w wr from ⟨by
                have h := HB.out.1
                rw [List.take_of_length_le (by have := HLN.out.1; have := HLL.out; omega), ← touch_ret HW11.out] at h
                exact h, HB.out.2.1⟩)
              have c0 : wr.cell? ⟨X, 0, none⟩ = some (.int .i64 x.t) := HB.out.2.2.cell_ (i := 0) rfl
              clear HB hj hjl
              go_wp2_with (at_delete; refine wp_dropS rfl (.tmp 85) (.tmp 87) rfl rfl HB2.out.1 rfl HWX.out ?_)
              intro w5 hs5 ho5
              have HO5 := Lib.hid (HB2.out.2.step ho5 (fun i hi e => by omega))
              have HS5 := Lib.hid hs5
              clear hs5 ho5 HB2 c0
              have HRI := Lib.hid (show RcI w l (k + 1) (.slice A1 N cap1) w5 from ⟨⟨n, _, by have := HK.out.1; omega, by
                rw [HC1.out, HNX.out, if_neg HW1.out, List.append_nil, ix_ret (show (0 : Int) ≤ k by omega) HW11.out]; exact HS5.out⟩, HO5.out⟩)
              have HLT := Lib.hid HK.out.2.1
              clear HS5 HO5
              go_wp2
              exact ⟨⟨k + 1, by have := HLT.out; omega, by go_num, HRI.out⟩, by have := HLT.out; simp [intOf]; omega⟩
        · have HW11 := Lib.hid hw11
          have hown := HS.out.places HWX.out
          generalize hV0 : V x.t = v0 at *
          obtain ⟨Av, cpv, rfl, hI⟩ := ownI_form hown
          have HIX := Lib.hid (show ∀ (j : Nat) (n : Nat), (openF x.t 0 cs)[j]? = some n → (ixOf cs x.t).getD j 0 = n ∧ n < cs.length from fun j n h => ⟨by unfold ixOf; rw [List.getD_eq_getElem?_getD, List.getElem?_map, h]; rfl, by have := openF_lt (t := x.t) cs 0 n (List.mem_of_getElem? h); omega⟩)
          have HLN := Lib.hid (show (ixOf cs x.t).length = (openF x.t 0 cs).length ∧ (ixOf cs x.t).length ≤ 2000 from ⟨by unfold ixOf; rw [List.length_map], by unfold ixOf; rw [List.length_map]; have h1 := openF_len (t := x.t) cs 0; have h2 := HCL.out; have h3 := HK.out.2.1; have h4 := HM.out; omega⟩)
          have hlk := (HS.out.look HWX.out).1 w1 (Only.refl _ _)
          rw [hV0] at hlk
          have HV0 := Lib.hid hV0
          clear hV0
          generalize hLL : (ixOf cs x.t).length = L at *
          have HLL := Lib.hid hLL
          clear hLL
          generalize hNN : cs.length = N at *
          have HNN := Lib.hid hNN
          clear hNN hown hI
          go_upto_region 8 with (fail)
          rw [show (x.w == 1) = false by simpa using hw1, show (x.w == 11) = false by simpa using hw11]
          clear hlk c0 c1 c2 c3 hw1 hw11
          have HB0 := Lib.hid (And.intro HS.out (And.intro HO.out HR.out))
          have q1 : (L : Int) ≤ 9223372036854775806 := by have := HLN.out.2; omega
          clear HS HO HR
          go_loopw [26] (fun jv wq => ∃ j : Nat, j ≤ L ∧ jv = .int .i64 j ∧ Hid (RcS (w.heap.size + 1) wq w.heap.size n (.slice A1 N cap1) (bump (pntU k) ((openF x.t 0 cs).take j) cs) (ixOf cs) V ∧ Only Nil w wq)) (fun jv _ => L - (intOf jv).toNat)
          case atStart => exact ⟨0, Nat.zero_le _, rfl, Lib.hid ⟨HB0.out.1, HB0.out.2.1⟩⟩
          case round =>
            clear HB0
            obtain ⟨j, hj, rfl, HB⟩ := hrel
            by_cases hjl : j < L
            · obtain ⟨i, hi⟩ : ∃ i, (openF x.t 0 cs)[j]? = some i := ⟨_, List.getElem?_eq_getElem (by rw [← HLN.out.1]; exact hjl)⟩
              obtain ⟨hiv, hin⟩ := HIX.out j i hi
              have htk : (openF x.t 0 cs).take (j + 1) = (openF x.t 0 cs).take j ++ [i] := by rw [List.take_add_one, hi]; rfl
              have HBN := Lib.hid (show bump (pntU k) ((openF x.t 0 cs).take (j + 1)) cs = modN (pntU k) i (bump (pntU k) ((openF x.t 0 cs).take j) cs) by rw [htk, bump_snoc])
              have hbl := bump_len (pntU k) ((openF x.t 0 cs).take j) cs
              have HBP := Lib.hid (fun c (hc : c ∈ bump (pntU k) ((openF x.t 0 cs).take j) cs) => bump_pts (k : Int) cs (fun c hc => (HPT.out c hc)) ((openF x.t 0 cs).take j) c hc)
              clear htk hi
              generalize hbb : bump (pntU k) ((openF x.t 0 cs).take j) cs = bs at *
              clear hbb
              generalize hc1 : bump (pntU k) ((openF x.t 0 cs).take (j + 1)) cs = bs1 at *
              have HC2 := Lib.hid hc1
              clear hc1
              obtain ⟨c, hc⟩ : ∃ c, bs[i]? = some c := ⟨_, List.getElem?_eq_getElem (by rw [hbl, HNN.out]; exact hin)⟩
              obtain ⟨g, c9, p9, e9, hi9, ⟨cur, hr, hcs⟩, hp9, hnx⟩ := HB.out.1.at_ hc
              injection e9 with e9 e10 e11
              subst e9
              have hpl := HB.out.1.places HWX.out
              rw [HV0.out] at hpl
              obtain ⟨A8, c8, e8, hI⟩ := ownI_form hpl
              injection e8 with e8 e8b e8c
              subst e8
              clear e8b e8c
              obtain ⟨b9, o9, rfl, hb9, hcell⟩ := hI (by rw [HLL.out]; omega)
              have d9 := hcell j (by rw [HLL.out]; exact hjl)
              rw [hiv] at d9
              obtain ⟨B9, k9, rfl, hI9⟩ := ownI_form hp9
              have d5 : wr.cell? ⟨g, i * 6 + 5, none⟩ = some (.slice B9 c.ps.length k9) := hr.cell_ (hcs 5 _ rfl)
              have HC9 := Lib.hid hc
              have HNX9 := Lib.hid hnx
              have HP9 := Lib.hid hp9
              have HJL := Lib.hid (And.intro hjl hin)
              have HRW := Lib.hid (And.intro hr hcs)
              have HGX := Lib.hid hi9.2
              have HPL := Lib.hid (show c.ps.length ≤ 1000000 by have h1 := HBP.out c (List.mem_of_getElem? hc); have h2 := HM.out; have h3 := HK.out.2.1; have h4 := List.length_take_le j (openF x.t 0 cs); have h5 := HLN.out; omega)
              have q5 : (i : Int) < N := by omega
              have q6 : (0 : Int) ≤ i := by omega
              have q7 : (i : Int).toNat = i := rfl
              have q8 : (j : Int) < L := by omega
              clear hpl hI hcell hiv hbl hj hc hi9 hcs hr hb9 e10 e11 hnx hp9 hI9
              generalize hPN : c.ps.length = PN at *
              have HPN := Lib.hid hPN
              clear hPN
              go_wp2_with fail
              refine (growI_any _ c.ps k (w.heap.size + 1) wr HP9.out (by have := HB.out.1.lt; omega) (by rw [HPN.out]; exact HPL.out)).mono ?_
              rintro e w2 ⟨v', rfl, hv', hg⟩
              obtain ⟨ho2, hs2⟩ := HNX9.out w2 v' k hg hv'
              have hr2 := HRW.out.1.only hg.1 (fun e => by
                obtain ⟨c7, r7⟩ := ownI_tag HP9.out e
                exact row_apart HRW.out.1 r7 (by decide) rfl)
              have d6 : w2.cell? ⟨g, i * 6 + 5, none⟩ = some (.slice B9 PN k9) := hr2.cell_ (HRW.out.2 5 _ rfl)
              have d7 := hr2.frozen (i * 6 + 5)
              have HB2 := Lib.hid (And.intro (show RcS (w.heap.size + 1) (w2.setCell ⟨g, i * 6 + 5, none⟩ v') w.heap.size n (.slice (some ⟨g, 0, none⟩) N cap1) bs1 (ixOf cs) V by rw [HBN.out, modN_set (pntU k) bs i c HC9.out]; exact hs2) (HB.out.2.step ho2 (fun i hi e => by
                rcases e with e | e
                · have := (HP9.out.lt i e).1; omega
                · have := HGX.out; omega)))
              obtain ⟨B7, k7, e7, _⟩ := ownI_form hv'
              rw [List.length_append, List.length_singleton, HPN.out] at e7
              subst e7
              clear hv' hg ho2 hs2 hr2 HNX9 HP9 HB d5 HRW
              go_wp2
              go_roundw
              case rel => exact ⟨j + 1, by have := HJL.out.1; omega, by go_num, by rw [HC2.out]; exact HB2⟩
              case measure => have := HJL.out.1; simp [intOf]; omega
            · obtain rfl : L = j := by omega
              have HRI := Lib.hid (show RcI w l (k + 1) (.slice A1 N cap1) wr from ⟨⟨n, _, by have := HK.out.1; omega, by
                have h := HB.out.1
                rw [List.take_of_length_le (by have := HLN.out.1; have := HLL.out; omega), ← touch_pnt HW11.out HW1.out] at h
                rw [HC1.out, HNX.out, if_neg HW1.out, List.append_nil, ix_pnt HW11.out]; exact h⟩, HB.out.2⟩)
              have HLT := Lib.hid HK.out.2.1
              clear HB hj hjl
              go_wp2
              exact ⟨⟨k + 1, by have := HLT.out; omega, by go_num, HRI.out⟩, by have := HLT.out; simp [intOf]; omega⟩
    · obtain rfl : k = m := by omega
      have HE := Lib.hid (show l.take k = l by rw [← HZ.out]; exact List.take_length)
      have HC := Lib.hid (show CalsAt wr (.slice A1 (callsF 0 (l.take k)).length cap1) (callsF 0 l) from by have h := hS.cals; rw [HE.out] at h ⊢; exact h)
      have HO := Lib.hid hO
      clear hS hO hlt hk hn HE
      go_wp2
      go_ret
      exact ⟨_, rfl, HC.out, HO.out⟩
end Go.Proofs.Ytigdbokfapedcaa
set_option linter.unusedVariables false
set_option linter.unusedSimpArgs false
namespace Go.Proofs.Ytigdbokfapedcaa
open Go.RowKit
def CalsOwn (base : Nat) (w : World) (v : Value) (cs : List Cal) : Prop := ∃ zs : List (Cal × Value), zs.map Prod.fst = cs ∧ OwnC base w v zs ∧ ∀ (i : Nat) (z : Cal × Value), zs[i]? = some z → OwnI base w z.2 z.1.ps
theorem calsOwn_nil (base : Nat) (w : World) : CalsOwn base w (.slice none 0 0) [] := ⟨[], rfl, ownC_nil _ _, fun i z h => by simp at h⟩
section
variable {base : Nat} {w w' : World} {v : Value} {cs : List Cal}
theorem CalsOwn.only (h : CalsOwn base w v cs) (ho : Only Nil w w') : CalsOwn base w' v cs := by
  obtain ⟨zs, h1, h2, h3⟩ := h
  exact ⟨zs, h1, own_only h2 ho (fun _ _ => id), fun i z hz => own_only (h3 i z hz) ho (fun _ _ => id)⟩
theorem CalsOwn.form (h : CalsOwn base w v cs) : ∃ A c, v = .slice A cs.length c := by
  obtain ⟨zs, h1, h3, _⟩ := h
  have hl : zs.length = cs.length := by rw [← h1, List.length_map]
  rcases h3.2 with ⟨rfl, h0⟩ | ⟨g, cap, cur, rfl, _⟩
  · exact ⟨none, 0, by rw [← hl, h0]⟩
  · exact ⟨_, _, by rw [hl]⟩
theorem CalsOwn.cals (h : CalsOwn base w v cs) : CalsAt w v cs := by
  obtain ⟨A, c, e⟩ := h.form
  obtain ⟨zs, h1, h2, h3⟩ := h
  have hl : zs.length = cs.length := by rw [← h1, List.length_map]
  refine ⟨A, c, e, fun i x hx => ?_⟩
  obtain ⟨z, hz⟩ : ∃ z, zs[i]? = some z := ⟨_, List.getElem?_eq_getElem (by have := (List.getElem?_eq_some_iff.1 hx).1; omega)⟩
  have hzx : z.1 = x := by rw [← h1, List.getElem?_map, hz] at hx; injection hx
  obtain ⟨z1, p⟩ := z
  subst hzx
  rcases h2.2 with ⟨_, h0⟩ | ⟨g, cap, cur, hcv, hb, hg, hc, hm, hs, ht⟩
  · have := (List.getElem?_eq_some_iff.1 hz).1; omega
  rw [hcv] at e
  injection e with e
  have hr : Row w g 38 cur := hg
  have hcs : ∀ (j : Nat) (u : Value), (flat1C (z1, p))[j]? = some u → cur[i * 6 + j]? = some u := fun j u hju => by
    have e1 := flatC_get zs i _ j hz (List.getElem?_eq_some_iff.1 hju).1
    rw [← ht, List.getElem?_take, if_pos (by have := (List.getElem?_eq_some_iff.1 hz).1; have h8 : j < 6 := (List.getElem?_eq_some_iff.1 hju).1; omega), Array.getElem?_toList] at e1
    rw [e1]; exact hju
  obtain ⟨B, k, hp, hI⟩ := ownI_form (h3 i _ hz)
  have hp : p = _ := hp
  rw [hp] at hcs
  exact ⟨g, 0, e.symm, hr.lt, ⟨by rw [Nat.zero_add]; exact hr.cell_ (hcs 0 _ rfl), by rw [Nat.zero_add]; exact hr.cell_ (hcs 1 _ rfl), by rw [Nat.zero_add]; exact hr.cell_ (hcs 2 _ rfl), by rw [Nat.zero_add]; exact hr.cell_ (hcs 3 _ rfl), by rw [Nat.zero_add]; exact hr.cell_ (hcs 4 _ rfl), B, k, by rw [Nat.zero_add]; exact hr.cell_ (hcs 5 _ rfl), hI⟩⟩
end
theorem CalsOwn.app {base : Nat} {w w1 w2 : World} {v v' : Value} {zs : List (Cal × Value)} {c : Cal} {p : Value} (h2 : OwnC base w v zs) (h3 : ∀ (i : Nat) (z : Cal × Value), zs[i]? = some z → OwnI base w z.2 z.1.ps) (hp : OwnI base w p c.ps) (h0 : Only Nil w w1) (hg : w1.grownBy w2 v.ownBlock) (h : OwnC base w2 v' (zs ++ [(c, p)])) : CalsOwn base w2 v' (zs.map Prod.fst ++ [c]) ∧ Only (fun j => v.ownBlock = some j) w w2 := by
  have ho : Only (fun j => v.ownBlock = some j) w w2 := (h0.mono (fun _ _ h => h.elim)).grown hg (fun k hk => .inr hk)
  have hk : ∀ {u : Value} {xs : List Int}, OwnI base w u xs → OwnI base w2 u xs := fun hu => own_only hu ho (fun b hb e => by
    obtain ⟨c1, r1⟩ := ownI_tag hu hb
    obtain ⟨c2, r2⟩ := ownC_tag h2 e
    exact row_apart r1 r2 (by decide) rfl)
  refine ⟨⟨zs ++ [(c, p)], by rw [List.map_append]; rfl, h, fun i z hz => ?_⟩, ho⟩
  rcases Nat.lt_or_ge i zs.length with hi | hi
  · rw [List.getElem?_append_left hi] at hz; exact hk (h3 i z hz)
  · have hil : i < zs.length + 1 := by
      have := (List.getElem?_eq_some_iff.1 hz).1
      rwa [List.length_append, List.length_singleton] at this
    obtain rfl : i = zs.length := by omega
    rw [List.getElem?_append_right (Nat.le_refl _), Nat.sub_self, List.getElem?_cons_zero] at hz
    injection hz with hz
    subst hz
    exact hk hp
structure RfI (w : World) (l : List Nt) (i : Nat) (p : Value) (wr : World) : Prop where
  s : ∃ pre, callsF 0 l = pre ++ callsF i (l.drop i) ∧ CalsOwn w.heap.size wr p pre
  o : Only Nil w wr
structure RfB (w : World) (x : Nt) (i : Nat) (r : List Nt) (C : Nat) (wq : World) : Prop where
  o : Only Nil w wq
  c : ∃ p, Row wq C 38 #[.int .i64 x.t, .int .i64 x.o, .int .i64 i, .int .i64 (retF x.t (i + 1) r).1, .int .i64 (retF x.t (i + 1) r).2.1, p] ∧ OwnI (C + 1) wq p (retF x.t (i + 1) r).2.2
theorem RfB.of {w wq : World} {x : Nt} {i : Nat} {R : List Nt} {C : Nat} {g r : Int} {ps : List Int} {p : Value} (ho : Only Nil w wq) (hr : Row wq C 38 #[.int .i64 x.t, .int .i64 x.o, .int .i64 i, .int .i64 g, .int .i64 r, p]) (hp : OwnI (C + 1) wq p ps) (he : retF x.t (i + 1) R = (g, r, ps)) : RfB w x i R C wq :=
  ⟨ho, p, by rw [he]; exact hr, by rw [he]; exact hp⟩
set_option maxRecDepth 100000 in
set_option maxHeartbeats 4000000 in
theorem rfCalls_any (A : Option Addr) (m cap : Nat) (l : List Nt) (w : World) (hl : l.length = m) (hN : Notes w A l) (hm : m ≤ 2000) :
    Calls Try.prog 9 #[.slice A m cap] w fun e w' => ∃ cv, e = .returned cv ∧ CalsAt w' cv (callsF 0 l) ∧ Only Nil w w' := by
  have HZ := Lib.hid hl
  have HN := Lib.hid hN
  have HM := Lib.hid hm
  have q0 : (m : Int) ≤ 9223372036854775806 := by omega
  clear hl hN hm
  go_enter Try.func9, Try.ntmps9
  go_wp2
  go_loopw [3, 4] (fun p iv wr => ∃ i : Nat, i ≤ m ∧ iv = .int .i64 i ∧ RfI w l i p wr) (fun _ iv _ => m - (intOf iv).toNat)
  case atStart => exact ⟨0, Nat.zero_le _, rfl, ⟨[], rfl, calsOwn_nil _ _⟩, Only.refl _ _⟩
  case round =>
    rename_i p iv
    generalize wr = wo at *
    obtain ⟨i, hi, rfl, HI⟩ := hrel
    obtain ⟨pre, he, hS⟩ := HI.s
    have hO := HI.o
    clear HI
    obtain ⟨A1, cap1, rfl⟩ := hS.form
    by_cases hlt : i < m
    · obtain ⟨x, hx⟩ : ∃ x, l[i]? = some x := ⟨_, List.getElem?_eq_getElem (by rw [HZ.out]; exact hlt)⟩
      have hd : l.drop i = x :: l.drop (i + 1) := by
        obtain ⟨h1, h2⟩ := List.getElem?_eq_some_iff.1 hx
        rw [List.drop_eq_getElem_cons h1, h2]
      obtain ⟨b, q, rfl, hb, hat⟩ := (HN.out.only hO) (by rw [HZ.out]; omega)
      obtain ⟨f0, f1, f2, f3⟩ := hat i x hx
      have HPL := Lib.hid (show pre.length ≤ 2000 by
        have h1 := congrArg List.length he
        rw [List.length_append] at h1
        have h2 := callsF_len l 0
        have h3 := HM.out
        have h4 := HZ.out
        omega)
      have q5 : (i : Int) < m := by omega
      have q6 : (0 : Int) ≤ i := by omega
      have q7 : (i : Int).toNat = i := rfl
      by_cases hw1 : x.w = 1
      · have HW1 := Lib.hid hw1
        have hee : callsF 0 l = (pre ++ [callAt i x (l.drop (i + 1))]) ++ callsF ((i + 1 : Nat) : Int) (l.drop (i + 1)) := by
          rw [he, hd, callsF, if_pos hw1, List.append_assoc]; rfl
        have HE := Lib.hid hee
        have HS := Lib.hid hS
        have HO := Lib.hid hO
        have HB := Lib.hid hb
        have HLT := Lib.hid hlt
        clear hee he hS hO hat hd hx hb hi hlt
        go_upto_region 6 with (fail)
        generalize hPN : pre.length = PN at *
        have HPN := Lib.hid hPN
        clear hPN
        refine wp_region_held_drew (S := fun w' => w'.cell? ⟨b, q + i * 4, none⟩ = some (.int .i64 x.t) ∧ w'.cell? ⟨b, q + i * 4 + 2, none⟩ = some (.int .i64 x.o)) (by kernel_rfl) ⟨f0, f2⟩ (fun hHeld => ?_)
        refine zk 0 rfl ?_
        refine zk 1 rfl ?_
        refine zk 2 rfl ?_
        refine zk 3 rfl ?_
        refine zk 4 rfl ?_
        refine zk 5 rfl ?_
        refine zk 6 rfl ?_
        refine zk 7 rfl ?_
        refine zk 8 rfl ?_
        refine zk 9 rfl ?_
        refine zk 10 rfl ?_
        refine zk 11 rfl ?_
        refine mcl 12 rfl (by kernel_rfl) (by rfl) (fun K hK => ?_)
        go_simp
        have e1 := ((Only.refl Nil wo).alloc (.cells #[.int .i64 0, .int .i64 0, .int .i64 0, .int .i64 0, .int .i64 0, .slice none 0 0] 38)).drew
        refine hK.out _ _ ⟨(e1.cell (p := ⟨b, q + i * 4, none⟩) HB.out id).trans f0, (e1.cell (p := ⟨b, q + i * 4 + 2, none⟩) HB.out id).trans f2⟩ (fun hHeld2 => ?_)
        have HW0 := Lib.hid (Row.new wo 38 #[.int .i64 0, .int .i64 0, .int .i64 0, .int .i64 0, .int .i64 0, .slice none 0 0]).drew
        have HE1 := Lib.hid e1
        have HF := Lib.hid (And.intro f0 f2)
        clear hK K hHeld hHeld2 e1 f0 f1 f2 f3
        generalize (wo.alloc (.cells #[.int .i64 0, .int .i64 0, .int .i64 0, .int .i64 0, .int .i64 0, .slice none 0 0] 38)).drew = w1 at *
        generalize hC : wo.heap.size = C at *
        refine mcl 13 rfl (by kernel_rfl) (by rfl) (fun K hK => ?_)
        refine wp_storeR' 38 (.tmp 5) (.tmp 30) rfl (by rfl) (by rfl) HW0.out (by kernel_rfl) (Nat.le_refl 6) (by rfl) ?_
        rw [putL_all (by rfl)]
        have hr1 := HW0.out.setRow #[.int .i64 x.t, .int .i64 x.o, .int .i64 i, .int .i64 (-1), .int .i64 0, .slice none 0 0]
        have ho1 := HE1.out.setRow (g := C) (.inl (by omega)) #[.int .i64 x.t, .int .i64 x.o, .int .i64 i, .int .i64 (-1), .int .i64 0, .slice none 0 0]
        refine hK.out _ _ ⟨(ho1.cell (p := ⟨b, q + i * 4, none⟩) (by rw [hC]; exact HB.out) id).trans HF.out.1, (ho1.cell (p := ⟨b, q + i * 4 + 2, none⟩) (by rw [hC]; exact HB.out) id).trans HF.out.2⟩ (fun hHeld3 => ?_)
        have HR0 := Lib.hid (show RfB wo x i [] C (w1.setRow C #[.int .i64 x.t, .int .i64 x.o, .int .i64 i, .int .i64 (-1), .int .i64 0, .slice none 0 0]) from ⟨ho1, _, hr1, ownI_nil _ _⟩)
        clear hK K hHeld3 hr1 ho1 HW0 HE1 HF
        generalize w1.setRow C _ = w2 at *
        refine wpAnyH_done (by kernel_rfl) ?_ _
        go_upto_region 8 with (fail)
        go_loopw [6] (fun kv wq => ∃ k : Nat, (i + 1 ≤ k ∧ k ≤ m) ∧ kv = .int .i64 k ∧ Hid (RfB wo x i ((l.drop (i + 1)).take (k - (i + 1))) C wq)) (fun kv _ => m - (intOf kv).toNat)
        case atStart => exact ⟨i + 1, ⟨Nat.le_refl _, HLT.out⟩, by go_num, by rw [Nat.sub_self, List.take_zero]; exact HR0⟩
        case round =>
          clear HR0
          obtain ⟨k, hk, rfl, HR⟩ := hrel
          obtain ⟨pv, hrow, hpv⟩ := HR.out.c
          have HRO := Lib.hid HR.out.o
          have HRC := Lib.hid (And.intro hrow hpv)
          clear HR hrow hpv
          by_cases hkm : k < m
          · obtain ⟨y, hy⟩ : ∃ y, l[k]? = some y := ⟨_, List.getElem?_eq_getElem (by rw [HZ.out]; exact hkm)⟩
            have hty : (l.drop (i + 1)).take (k + 1 - (i + 1)) = (l.drop (i + 1)).take (k - (i + 1)) ++ [y] := by
              rw [show k + 1 - (i + 1) = (k - (i + 1)) + 1 by omega, List.take_add_one, List.getElem?_drop, show i + 1 + (k - (i + 1)) = k by omega, hy]; rfl
            have hln : ((l.drop (i + 1)).take (k - (i + 1))).length = k - (i + 1) := by
              rw [List.length_take, List.length_drop, HZ.out]; omega
            have hsn := retF_snoc x.t y ((l.drop (i + 1)).take (k - (i + 1))) (i + 1) (by omega)
            rw [← hty, hln, show ((i : Int) + 1 + ((k - (i + 1) : Nat) : Int)) = k by omega] at hsn
            have HTY := Lib.hid hsn
            have hpl : (retF x.t (i + 1) ((l.drop (i + 1)).take (k - (i + 1)))).2.2.length ≤ 2000 := by
              have h1 := retF_len x.t ((l.drop (i + 1)).take (k - (i + 1))) (i + 1)
              have h2 := HM.out
              omega
            have HPP := Lib.hid hpl
            clear hsn hty hln hpl
            generalize hrr : retF x.t (i + 1) ((l.drop (i + 1)).take (k - (i + 1))) = rr at *
            have HRR := Lib.hid hrr
            clear hrr
            generalize hrr1 : retF x.t (i + 1) ((l.drop (i + 1)).take (k + 1 - (i + 1))) = rr1 at *
            have HR1 := Lib.hid hrr1
            clear hrr1
            obtain ⟨g, r, ps⟩ := rr
            dsimp only at HRC HTY HPP
            obtain ⟨b', q', hbq, hb', hat⟩ := (HN.out.only (HO.out.trans HRO.out)) (by rw [HZ.out]; omega)
            injection hbq with hbq
            injection hbq with h1 h2
            subst h1 h2
            obtain ⟨d0, d1, d2, d3⟩ := hat k y hy
            have c0 : wr.cell? ⟨C, 0, none⟩ = some (.int .i64 x.t) := HRC.out.1.cell_ (i := 0) rfl
            have c3 : wr.cell? ⟨C, 3, none⟩ = some (.int .i64 g) := HRC.out.1.cell_ (i := 3) rfl
            have HKM := Lib.hid (And.intro hk hkm)
            have z5 : (k : Int) < m := by omega
            have z6 : (0 : Int) ≤ k := by omega
            have z7 : (k : Int).toNat = k := rfl
            clear hat hy hb' hk hkm
            by_cases hg : g < 0
            · have HG := Lib.hid hg
              by_cases ht : y.t = x.t
              · have HT := Lib.hid ht
                have ht1 : (y.t != x.t) = false := by simpa using ht
                by_cases h1 : y.w = 1
                · have H1 := Lib.hid h1
                  go_upto_region 10 with (fail)
                  go_quiet (fail)
                  have RB := Lib.hid (fun n => RfB.of (HRO.out.drewN n) (HRC.out.1.drewN n) (own_only HRC.out.2 ((Only.refl Nil wr).drewN n) (fun _ _ => id)) (show retF x.t (i + 1) ((l.drop (i + 1)).take (k + 1 - (i + 1))) = (g, r, ps) by rw [HR1.out, HTY.out, if_pos ⟨HG.out, HT.out⟩, if_neg (by have := H1.out; omega), if_pos H1.out]))
                  clear HRO HRC d0 d1 d2 d3 c0 c3
                  go_wp2
                  have HKN := Lib.hid (And.intro (show i + 1 ≤ k + 1 by have := HKM.out; omega) (show k + 1 ≤ m by have := HKM.out; omega))
                  go_roundw
                  case rel => exact ⟨k + 1, HKN.out, by go_num, Lib.hid (RB.out _)⟩
                  case measure => have := HKM.out; simp [intOf]; omega
                · by_cases h11 : y.w = 11
                  · have H1 := Lib.hid h1
                    have H11 := Lib.hid h11
                    go_upto_region 10 with (fail)
                    go_quiet (fail)
                    go_upto_region 12 with (fail)
                    generalize hw5 : wr.drewN _ = w5 at *
                    have e5 : Only Nil wr w5 := hw5 ▸ (Only.refl Nil wr).drewN _
                    have HR5 := Lib.hid (HRC.out.1.only e5 id)
                    have HP5 := Lib.hid (own_only HRC.out.2 e5 (fun _ _ => id))
                    have HO5 := Lib.hid (HRO.out.trans e5)
                    have d5 : w5.cell? ⟨b, q + k * 4 + 3, none⟩ = some (.int .i64 y.a) := (e5.cell (World.block_lt_of_cell? wr _ d3) id).trans d3
                    clear hw5 e5 HRO HRC d0 d1 d2 d3 c0 c3
                    have c3 : w5.cell? ⟨C, 3, none⟩ = some (.int .i64 g) := HR5.out.cell_ (i := 3) rfl
                    have c4 : w5.cell? ⟨C, 4, none⟩ = some (.int .i64 r) := HR5.out.cell_ (i := 4) rfl
                    have r3 := HR5.out.frozen 3
                    have r4 := HR5.out.frozen 4
                    have hbc : b ≠ C := by have := HB.out; omega
                    have RB := Lib.hid (RfB.of (w := wo) ((HO5.out.setCell (p := ⟨C, 3, none⟩) (.inl (Nat.le_of_eq hC)) (.int .i64 k)).setCell (p := ⟨C, 4, none⟩) (.inl (Nat.le_of_eq hC)) (.int .i64 y.a)) (by exact (HR5.out.set 3 (.int .i64 k)).set 4 (.int .i64 y.a)) (own_only HP5.out (((Only.refl (· = C) w5).setCell (p := ⟨C, 3, none⟩) (.inr rfl) (.int .i64 k)).setCell (p := ⟨C, 4, none⟩) (.inr rfl) (.int .i64 y.a)) (fun bb hbb e => by have := (HP5.out.lt bb hbb).1; omega)) (show retF x.t (i + 1) ((l.drop (i + 1)).take (k + 1 - (i + 1))) = ((k : Int), y.a, ps) by rw [HR1.out, HTY.out, if_pos ⟨HG.out, HT.out⟩, if_pos H11.out]))
                    clear HR5 HP5 HO5
                    go_wp2
                    have HKN := Lib.hid (And.intro (show i + 1 ≤ k + 1 by have := HKM.out; omega) (show k + 1 ≤ m by have := HKM.out; omega))
                    go_roundw
                    case rel => exact ⟨k + 1, HKN.out, by go_num, RB⟩
                    case measure => have := HKM.out; simp [intOf]; omega
                  · have H1 := Lib.hid h1
                    have H11 := Lib.hid h11
                    go_upto_region 10 with (fail)
                    go_quiet (fail)
                    go_upto_region 14 with (fail)
                    generalize hw5 : wr.drewN _ = w5 at *
                    have e5 : Only Nil wr w5 := hw5 ▸ (Only.refl Nil wr).drewN _
                    have HR5 := Lib.hid (HRC.out.1.only e5 id)
                    have HP5 := Lib.hid (show OwnI (C + 1) w5 pv ps from own_only HRC.out.2 e5 (fun _ _ => id))
                    have HO5 := Lib.hid (HRO.out.trans e5)
                    clear hw5 e5 HRO HRC d0 d1 d2 d3 c0 c3
                    obtain ⟨B5, k5, rfl, _⟩ := ownI_form HP5.out
                    generalize hPN : ps.length = PN at *
                    have HPS := Lib.hid hPN
                    clear hPN
                    have c5 : w5.cell? ⟨C, 5, none⟩ = some (.slice B5 PN k5) := HR5.out.cell_ (i := 5) rfl
                    go_wp2_with (at_builtin; refine wp_appI rfl (.tmp 75) (.tmp 77) rfl (C + 1) _ ps rfl (HP5.out.alloc _) _ (k : Int) rfl (Row.new _ _ _) (by rw [HPS.out]; have := HPP.out; omega) (by have := HR5.out.lt; simp; omega) ?_)
                    intro v4 w4 hown hg4 hn4
                    have ho4 := ((Only.refl (fun j => (Value.slice B5 PN k5).ownBlock = some j) w5).alloc (.cells #[.int .i64 k] 3)).grown hg4 (fun j hj => .inr hj)
                    have hr4 := HR5.out.only ho4 (fun e => by have := (HP5.out.lt C e).1; omega)
                    have c6 : w4.cell? ⟨C, 5, none⟩ = some (.slice B5 PN k5) := hr4.cell_ (i := 5) rfl
                    have r6 := hr4.frozen 5
                    have hvc : ∀ j, v4.ownBlock = some j → j ≠ C := fun j hj e => by have := (World.ownsRow.lt hown j hj).1; omega
                    have RB := Lib.hid (RfB.of (w := wo) ((HO5.out.step ho4 (fun j hj e => by have := (HP5.out.lt j e).1; omega)).setCell (p := ⟨C, 5, none⟩) (.inl (Nat.le_of_eq hC)) v4) (by exact hr4.set 5 v4) (own_only hown ((Only.refl (· = C) w4).setCell (p := ⟨C, 5, none⟩) (.inr rfl) v4) hvc) (show retF x.t (i + 1) ((l.drop (i + 1)).take (k + 1 - (i + 1))) = (g, r, ps ++ [(k : Int)]) by rw [HR1.out, HTY.out, if_pos ⟨HG.out, HT.out⟩, if_neg H11.out, if_neg H1.out]))
                    obtain ⟨B7, k7, e7, _⟩ := ownI_form hown
                    rw [List.length_append, List.length_singleton, HPS.out] at e7
                    subst e7
                    clear hown hg4 hn4 ho4 hr4 hvc HR5 HP5 HO5 c5
                    go_wp2
                    have HKN := Lib.hid (And.intro (show i + 1 ≤ k + 1 by have := HKM.out; omega) (show k + 1 ≤ m by have := HKM.out; omega))
                    go_roundw
                    case rel => exact ⟨k + 1, HKN.out, by go_num, RB⟩
                    case measure => have := HKM.out; simp [intOf]; omega
              · have HT := Lib.hid ht
                have ht1 : (y.t != x.t) = true := by simpa using ht
                go_upto_region 10 with (fail)
                go_quiet (fail)
                have RB := Lib.hid (fun n => RfB.of (HRO.out.drewN n) (HRC.out.1.drewN n) (own_only HRC.out.2 ((Only.refl Nil wr).drewN n) (fun _ _ => id)) (show retF x.t (i + 1) ((l.drop (i + 1)).take (k + 1 - (i + 1))) = (g, r, ps) by rw [HR1.out, HTY.out, if_neg (fun e => HT.out e.2)]))
                clear HRO HRC d0 d1 d2 d3 c0 c3
                go_wp2
                have HKN := Lib.hid (And.intro (show i + 1 ≤ k + 1 by have := HKM.out; omega) (show k + 1 ≤ m by have := HKM.out; omega))
                go_roundw
                case rel => exact ⟨k + 1, HKN.out, by go_num, Lib.hid (RB.out _)⟩
                case measure => have := HKM.out; simp [intOf]; omega
            · have HCA := Lib.hid (show callAt i x (l.drop (i + 1)) = ⟨x.t, x.o, i, g, r, ps⟩ by
                have h1 := retF_done x.t (i + 1) (by omega) ((l.drop (i + 1)).drop (k - (i + 1))) ((l.drop (i + 1)).take (k - (i + 1))) (by rw [HRR.out]; show 0 ≤ g; omega)
                rw [List.take_append_drop, HRR.out] at h1
                unfold callAt
                rw [h1])
              clear HTY c0 c3
              obtain ⟨zs, hz1, hz2, hz3⟩ := HS.out.only HRO.out
              have hpo : OwnI w.heap.size wr pv ps := by
                obtain ⟨e1, e2⟩ := HRC.out.2
                exact ⟨e1, e2.imp id (fun ⟨g', cap', cur', a1, a2, a3⟩ => ⟨g', cap', cur', a1, by have := HO.out.size; omega, a3⟩)⟩
              obtain ⟨B5, k5, rfl, _⟩ := ownI_form hpo
              have HZS := Lib.hid (And.intro hz1 (And.intro hz2 hz3))
              have HPO := Lib.hid hpo
              have HWR := Lib.hid (show w.heap.size ≤ wr.heap.size from Nat.le_trans HO.out.size HRO.out.size)
              have HOR := Lib.hid (HO.out.trans HRO.out)
              clear hz1 hz2 hz3 hpo
              generalize hP5 : ps.length = P5 at *
              have HP5 := Lib.hid hP5
              clear hP5
              have c0 : wr.cell? ⟨C, 0, none⟩ = some (.int .i64 x.t) := HRC.out.1.cell_ (i := 0) rfl
              have c1 : wr.cell? ⟨C, 1, none⟩ = some (.int .i64 x.o) := HRC.out.1.cell_ (i := 1) rfl
              have c2 : wr.cell? ⟨C, 2, none⟩ = some (.int .i64 i) := HRC.out.1.cell_ (i := 2) rfl
              have c3 : wr.cell? ⟨C, 3, none⟩ = some (.int .i64 g) := HRC.out.1.cell_ (i := 3) rfl
              have c4 : wr.cell? ⟨C, 4, none⟩ = some (.int .i64 r) := HRC.out.1.cell_ (i := 4) rfl
              have c5 : wr.cell? ⟨C, 5, none⟩ = some (.slice B5 P5 k5) := HRC.out.1.cell_ (i := 5) rfl
              go_wp2_with (at_builtin; refine wp_appC rfl (.tmp 80) (.tmp 82) rfl w.heap.size _ zs rfl (HZS.out.2.1.alloc _) _ (⟨x.t, x.o, i, g, r, ps⟩, .slice B5 P5 k5) rfl (Row.new _ _ _) rfl (by have h1 := HZS.out.1; have h2 := HPL.out; have h3 := HPN.out; rw [← h1, List.length_map] at h3; omega) (by have := HWR.out; simp; omega) ?_)
              intro v4 w4 hown hg4 hn4
              obtain ⟨hco, hoo⟩ := CalsOwn.app HZS.out.2.1 HZS.out.2.2 HPO.out ((Only.refl Nil wr).alloc _) hg4 hown
              rw [HZS.out.1] at hco
              have HRI := Lib.hid (show RfI w l (i + 1) v4 w4 from ⟨⟨_, HE.out, by rw [HCA.out]; exact hco⟩, HOR.out.step hoo (fun j hj e => by have := (World.ownsRow.lt HZS.out.2.1 j e).1; omega)⟩)
              clear hown hg4 hn4 hco hoo c0 c1 c2 c3 c4 c5 HZS HPO HRC
              go_wp2
              exact ⟨⟨i + 1, HLT.out, by go_num, HRI.out⟩, by have := HLT.out; simp [intOf]; omega⟩
          · obtain rfl : m = k := by omega
            generalize hrr : retF x.t (i + 1) ((l.drop (i + 1)).take (m - (i + 1))) = rr at *
            obtain ⟨g, r, ps⟩ := rr
            dsimp only at HRC
            have HCA := Lib.hid (show callAt i x (l.drop (i + 1)) = ⟨x.t, x.o, i, g, r, ps⟩ by
              rw [List.take_of_length_le (by rw [List.length_drop, HZ.out]; omega)] at hrr
              unfold callAt
              rw [hrr])
            clear hrr hk hkm
            obtain ⟨zs, hz1, hz2, hz3⟩ := HS.out.only HRO.out
            have hpo : OwnI w.heap.size wr pv ps := by
              obtain ⟨e1, e2⟩ := HRC.out.2
              exact ⟨e1, e2.imp id (fun ⟨g', cap', cur', a1, a2, a3⟩ => ⟨g', cap', cur', a1, by have := HO.out.size; omega, a3⟩)⟩
            obtain ⟨B5, k5, rfl, _⟩ := ownI_form hpo
            have HZS := Lib.hid (And.intro hz1 (And.intro hz2 hz3))
            have HPO := Lib.hid hpo
            have HWR := Lib.hid (show w.heap.size ≤ wr.heap.size from Nat.le_trans HO.out.size HRO.out.size)
            have HOR := Lib.hid (HO.out.trans HRO.out)
            clear hz1 hz2 hz3 hpo
            generalize hP5 : ps.length = P5 at *
            have HP5 := Lib.hid hP5
            clear hP5
            have c0 : wr.cell? ⟨C, 0, none⟩ = some (.int .i64 x.t) := HRC.out.1.cell_ (i := 0) rfl
            have c1 : wr.cell? ⟨C, 1, none⟩ = some (.int .i64 x.o) := HRC.out.1.cell_ (i := 1) rfl
            have c2 : wr.cell? ⟨C, 2, none⟩ = some (.int .i64 i) := HRC.out.1.cell_ (i := 2) rfl
            have c3 : wr.cell? ⟨C, 3, none⟩ = some (.int .i64 g) := HRC.out.1.cell_ (i := 3) rfl
            have c4 : wr.cell? ⟨C, 4, none⟩ = some (.int .i64 r) := HRC.out.1.cell_ (i := 4) rfl
            have c5 : wr.cell? ⟨C, 5, none⟩ = some (.slice B5 P5 k5) := HRC.out.1.cell_ (i := 5) rfl
            go_wp2_with (at_builtin; refine wp_appC rfl (.tmp 80) (.tmp 82) rfl w.heap.size _ zs rfl (HZS.out.2.1.alloc _) _ (⟨x.t, x.o, i, g, r, ps⟩, .slice B5 P5 k5) rfl (Row.new _ _ _) rfl (by have h1 := HZS.out.1; have h2 := HPL.out; have h3 := HPN.out; rw [← h1, List.length_map] at h3; omega) (by have := HWR.out; simp; omega) ?_)
            intro v4 w4 hown hg4 hn4
            obtain ⟨hco, hoo⟩ := CalsOwn.app HZS.out.2.1 HZS.out.2.2 HPO.out ((Only.refl Nil wr).alloc _) hg4 hown
            rw [HZS.out.1] at hco
            have HRI := Lib.hid (show RfI w l (i + 1) v4 w4 from ⟨⟨_, HE.out, by rw [HCA.out]; exact hco⟩, HOR.out.step hoo (fun j hj e => by have := (World.ownsRow.lt HZS.out.2.1 j e).1; omega)⟩)
            clear hown hg4 hn4 hco hoo c0 c1 c2 c3 c4 c5 HZS HPO HRC
            go_wp2
            exact ⟨⟨i + 1, HLT.out, by go_num, HRI.out⟩, by have := HLT.out; simp [intOf]; omega⟩
      · have HRI := Lib.hid (show RfI w l (i + 1) (.slice A1 pre.length cap1) wo from ⟨⟨pre, by rw [he, hd, callsF, if_neg hw1]; rfl, hS⟩, hO⟩)
        have HLT := Lib.hid hlt
        clear he hS hO hat hd hx hb hi hlt
        go_wp2
        exact ⟨⟨i + 1, HLT.out, by go_num, HRI.out⟩, by have := HLT.out; simp [intOf]; omega⟩
    · obtain rfl : i = m := by omega
      have HC := Lib.hid (show CalsAt wo (.slice A1 pre.length cap1) (callsF 0 l) from by
        have h := hS.cals
        rw [he, List.drop_of_length_le (by rw [HZ.out]; exact Nat.le_refl _), callsF, List.append_nil]
        exact h)
      have HO := Lib.hid hO
      clear he hS hO hlt hi
      go_wp2
      go_ret
      exact ⟨_, rfl, HC.out, HO.out⟩
end Go.Proofs.Ytigdbokfapedcaa
namespace Go.Proofs.Ytigdbokfapedcaa
open Go.RowKit
def bs (l : Bs) : ByteArray := ⟨l.toArray⟩
end Go.Proofs.Ytigdbokfapedcaa
namespace Go.Proofs.Ytigdbokfapedcaa
open Go.RowKit
end Go.Proofs.Ytigdbokfapedcaa
set_option linter.unusedVariables false
set_option linter.unusedSimpArgs false
namespace Go.Proofs.Ytigdbokfapedcaa
open Go.RowKit
def Strs (w : World) (v : Value) (ws : List Bs) : Prop := (ws = [] ∧ v = .slice none 0 0) ∨ ∃ g c, v = .slice (some ⟨g, 0, none⟩) ws.length c ∧ g < w.heap.size ∧ ∀ (j : Nat) (x : Bs), ws[j]? = some x → w.cell? ⟨g, j, none⟩ = some (.string (bs x))
theorem strs_new (w : World) (ws : List Bs) : Strs (w.alloc (.cells ((ws.map bs).map Value.string).toArray 9)) (.slice (some ⟨w.heap.size, 0, none⟩) ws.length ws.length) ws :=
  .inr ⟨w.heap.size, ws.length, rfl, by simp, fun j x hj => (Row.new w _ _).cell_ (by rw [List.getElem?_toArray, List.getElem?_map, List.getElem?_map, hj]; rfl)⟩
def Gives (ws : List Bs) (w : World) (e : Ending) (w' : World) : Prop := ∃ v, e = .returned v ∧ Strs w' v ws ∧ Only Nil w w'
theorem gives_nil (w : World) : Gives [] w (.returned (.slice none 0 0)) w := ⟨_, rfl, .inl ⟨rfl, rfl⟩, Only.refl _ _⟩
theorem gives_new (w : World) (ws : List Bs) : Gives ws w (.returned (.slice (some ⟨w.heap.size, 0, none⟩) ws.length ws.length)) (w.alloc (.cells ((ws.map bs).map Value.string).toArray 9)) :=
  ⟨_, rfl, strs_new w ws, (Only.refl _ _).alloc _⟩
theorem opWords_any (w : World) : Calls Try.prog 51 #[] w (Gives opWs w) := by
  go_enter Try.func51, Try.ntmps51
  go_wp2
  go_ret
  exact gives_new w opWs
theorem word_at {ws : List Bs} {k : Nat} (h : k < ws.length) : ws[k]? = some (wordI ws k) := by
  unfold wordI
  rw [if_neg (by omega), Int.toNat_natCast, List.getD_eq_getElem?_getD, List.getElem?_eq_getElem h]; rfl
theorem word_any (v : Value) (ws : List Bs) (x : Int) (w : World) (h : Strs w v ws) : Calls Try.prog 50 #[v, .int .i64 x] w fun e w' => e = .returned (.string (bs (wordI ws x))) ∧ w = w' := by
  by_cases h0 : x < 0
  · rw [word_out (.inl h0), show bs [] = ⟨#[]⟩ from rfl]
    rcases h with ⟨_, rfl⟩ | ⟨g, c, rfl, _, _⟩
    all_goals
      go_enter Try.func50, Try.ntmps50
      go_wp2
      go_ret
      exact ⟨rfl, rfl⟩
  · by_cases h1 : (ws.length : Int) ≤ x
    · rw [word_out (.inr h1), show bs [] = ⟨#[]⟩ from rfl]
      rcases h with ⟨rfl, rfl⟩ | ⟨g, c, rfl, _, _⟩
      · have h1' : (0 : Int) ≤ x := by omega
        clear h1 h0
        go_enter Try.func50, Try.ntmps50
        go_wp2
        go_ret
        exact ⟨rfl, rfl⟩
      · generalize ws.length = n at *
        go_enter Try.func50, Try.ntmps50
        go_wp2
        go_ret
        exact ⟨rfl, rfl⟩
    · obtain ⟨k, rfl⟩ : ∃ k : Nat, x = k := ⟨x.toNat, by omega⟩
      have hk : k < ws.length := by omega
      rcases h with ⟨rfl, rfl⟩ | ⟨g, c, rfl, hg, hc⟩
      · simp at hk
      · have hcell := hc k _ (word_at hk)
        generalize bs (wordI ws k) = X at *
        generalize ws.length = n at *
        clear hc h0 h1 hg
        have h0 : decide ((k : Int) < 0) = false := by simp
        have h1 : ¬ (n : Int) ≤ k := by omega
        go_enter Try.func50, Try.ntmps50
        go_wp2
        go_ret
        exact ⟨rfl, rfl⟩
end Go.Proofs.Ytigdbokfapedcaa

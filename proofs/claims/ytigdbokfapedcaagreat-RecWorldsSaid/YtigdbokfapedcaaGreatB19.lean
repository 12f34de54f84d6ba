/- RcG. -/
import Derived.Test.YtigdbokfapedcaaGreatChecked
import Derived.Laws.AppendOwn
import Derived.Maps.AppendAt
import Derived.OwnWalk
import Derived.Deep.Cut
import Derived.Test.YtigdbokfapedcaaGreatB1
/- Lists of numbers and of calls that a call made; rec.grow. -/
set_option linter.unusedVariables false
set_option linter.unusedSimpArgs false
namespace Go.Proofs.YtigdbokfapedcaaGreat
open Go.RowKit
/-- A list of these numbers, that the call made. -/
def OwnI (base : Nat) (w : World) (v : Value) (xs : List Int) : Prop := w.ownsRow base 3 1 v xs.length (xs.map (Value.int .i64))
theorem ownI_nil (base : Nat) (w : World) : OwnI base w (.slice none 0 0) [] := World.ownsRow_nil _ _ _ _
set_option maxRecDepth 100000 in
theorem infoI : (Tryz.prog.info? 3).map (fun i => (i.zero, i.size, i.bytes)) = some (some (.int .i64 0), 1, 8) := by kernel_rfl
/-- The same block, or a new one. -/
def Near (w : World) (v v' : Value) : Prop := v'.ownBlock = v.ownBlock ∨ ∃ g, v'.ownBlock = some g ∧ w.heap.size ≤ g
set_option maxRecDepth 100000 in
theorem wp_appI {w : World} {ops : Array Oper} {rest : List Oper} {o : Oper} {a : Act} {Q : Exit → Act → World → Prop} (hgd : o.guard = none) (s x : Operand)
    (ho : o.op = .call { callee := .builtin .append, args := #[s, x], argTypes := #[35, 35] })
    (base : Nat) (v : Value) (zs : List Int) (hs : a.eval s = v) (hown : OwnI base w v zs)
    (g : Nat) (n : Int) (hx : a.eval x = .slice (some ⟨g, 0, none⟩) 1 1) (hrow : Row w g 3 #[.int .i64 n])
    (h1 : zs.length ≤ 1000000) (hbase : base ≤ w.heap.size)
    (h : ∀ v' w', OwnI base w' v' (zs ++ [n]) → w.grownBy w' v.ownBlock → Near w v v' → wpList Tryz.prog ops Q rest (a.put o.dst v') w') : wpList Tryz.prog ops Q (o :: rest) a w := by
  obtain ⟨i0, hi, hz0, hz1, hz2⟩ := info_parts infoI
  refine wpList_append_own_at w hgd s x 35 ho base 3 i0 (.int .i64 0) 1 8 Tryz.underlying35 hi hz0 hz1 hz2 rfl (by decide) v zs.length (zs.map (Value.int .i64)) hs hown ⟨g, 0, none⟩ 1 1 [.int .i64 n] hx rfl (fun j u hj => ?_) (fun u hu => ?_) (by unfold maxLen; omega) (by omega) hbase (fun v' w' hO hG _ hat => h v' w' ?_ hG ?_)
  · rw [add_at, Nat.zero_add]
    exact hrow.cell_ (by rw [← hj]; simp)
  · obtain rfl := List.mem_singleton.1 hu; rfl
  · unfold OwnI
    rw [List.map_append, List.length_append]
    exact hO
  · exact hat.imp id (fun e => ⟨_, e, Nat.le_refl _⟩)
/-- A call with its points' list as a value. -/
def flat1C (z : Cal × Value) : List Value := [.int .i64 z.1.t, .int .i64 z.1.o, .int .i64 z.1.f, .int .i64 z.1.g, .int .i64 z.1.r, z.2]
def flatC : List (Cal × Value) → List Value
  | [] => []
  | z :: r => flat1C z ++ flatC r
theorem flatC_len : ∀ zs, (flatC zs).length = zs.length * 6
  | [] => rfl
  | n :: r => by rw [flatC, List.length_append, flatC_len r, List.length_cons]; show 6 + _ = _; omega
theorem flatC_app : ∀ zs ys, flatC (zs ++ ys) = flatC zs ++ flatC ys
  | [], ys => rfl
  | n :: r, ys => by rw [List.cons_append, flatC, flatC, flatC_app r ys, List.append_assoc]
theorem flatC_get : ∀ (zs : List (Cal × Value)) (i : Nat) (n : Cal × Value) (j : Nat), zs[i]? = some n → j < 6 → (flatC zs)[i * 6 + j]? = (flat1C n)[j]?
  | [], i, n, j, h, _ => by simp at h
  | m :: r, 0, n, j, h, hj => by
    simp only [List.getElem?_cons_zero, Option.some.injEq] at h
    subst h
    rw [flatC, List.getElem?_append_left (by show _ < 6; omega), Nat.zero_mul, Nat.zero_add]
  | m :: r, i + 1, n, j, h, hj => by
    rw [flatC, List.getElem?_append_right (by show 6 ≤ _; omega), show (i + 1) * 6 + j - (flat1C m).length = i * 6 + j by show (i + 1) * 6 + j - 6 = _; omega]
    exact flatC_get r i n j (by simpa using h) hj
theorem flatC_set : ∀ (zs : List (Cal × Value)) (i : Nat) (z n : Cal × Value) (j : Nat) (u : Value), zs[i]? = some z → j < 6 → flat1C n = (flat1C z).set j u → (flatC zs).set (i * 6 + j) u = flatC (zs.set i n)
  | [], i, z, n, j, u, h, _, _ => by simp at h
  | m :: r, 0, z, n, j, u, h, hj, e => by
    simp only [List.getElem?_cons_zero, Option.some.injEq] at h
    subst h
    rw [List.set_cons_zero, flatC, flatC, Nat.zero_mul, Nat.zero_add, List.set_append_left _ _ (by show j < 6; omega), e]
  | m :: r, i + 1, z, n, j, u, h, hj, e => by
    rw [List.set_cons_succ, flatC, flatC, List.set_append_right _ _ (by show 6 ≤ _; omega), show (i + 1) * 6 + j - (flat1C m).length = i * 6 + j by show (i + 1) * 6 + j - 6 = _; omega,
      flatC_set r i z n j u (by simpa using h) hj e]
/-- A list of these calls, that the call made (their points' lists as values). -/
def OwnC (base : Nat) (w : World) (v : Value) (zs : List (Cal × Value)) : Prop := w.ownsRow base 37 6 v zs.length (flatC zs)
theorem ownC_nil (base : Nat) (w : World) : OwnC base w (.slice none 0 0) [] := World.ownsRow_nil _ _ _ _
set_option maxRecDepth 100000 in
theorem infoC : (Tryz.prog.info? 37).map (fun i => (i.zero, i.size, i.bytes)) = some (some (.agg #[.int .i64 0, .int .i64 0, .int .i64 0, .int .i64 0, .int .i64 0, .slice none 0 0]), 6, 64) := by kernel_rfl
set_option maxRecDepth 100000 in
theorem wp_appC {w : World} {ops : Array Oper} {rest : List Oper} {o : Oper} {a : Act} {Q : Exit → Act → World → Prop} (hgd : o.guard = none) (s x : Operand)
    (ho : o.op = .call { callee := .builtin .append, args := #[s, x], argTypes := #[33, 33] })
    (base : Nat) (v : Value) (zs : List (Cal × Value)) (hs : a.eval s = v) (hown : OwnC base w v zs)
    (g : Nat) (n : Cal × Value) (hx : a.eval x = .slice (some ⟨g, 0, none⟩) 1 1) (hrow : Row w g 37 (flat1C n).toArray) (hone : n.2.oneCell' = true)
    (h1 : zs.length ≤ 1000000) (hbase : base ≤ w.heap.size)
    (h : ∀ v' w', OwnC base w' v' (zs ++ [n]) → w.grownBy w' v.ownBlock → Near w v v' → wpList Tryz.prog ops Q rest (a.put o.dst v') w') : wpList Tryz.prog ops Q (o :: rest) a w := by
  obtain ⟨i0, hi, hz0, hz1, hz2⟩ := info_parts infoC
  refine wpList_append_own_at w hgd s x 33 ho base 37 i0 (.agg #[.int .i64 0, .int .i64 0, .int .i64 0, .int .i64 0, .int .i64 0, .slice none 0 0]) 6 64 Tryz.underlying33 hi hz0 hz1 hz2 rfl (by decide) v zs.length (flatC zs) hs hown ⟨g, 0, none⟩ 1 1 (flat1C n) hx rfl (fun j u hj => ?_) (fun u hu => ?_) (by unfold maxLen; omega) (by omega) hbase (fun v' w' hO hG _ hat => h v' w' ?_ hG ?_)
  · rw [add_at, Nat.zero_add]
    exact hrow.cell_ (by rw [← hj]; simp)
  · unfold flat1C at hu
    simp only [List.mem_cons, List.not_mem_nil, or_false] at hu
    rcases hu with rfl | rfl | rfl | rfl | rfl | rfl <;> first | rfl | exact hone
  · unfold OwnC
    rw [flatC_app, List.length_append, show flatC [n] = flat1C n from List.append_nil _]
    exact hO
  · exact hat.imp id (fun e => ⟨_, e, Nat.le_refl _⟩)
/-- What grew, from a world ahead of which nothing but new blocks came. -/
def Grown (w : World) (v v' : Value) (w' : World) : Prop := Only (fun i => v.ownBlock = some i) w w' ∧ Near w v v'
theorem grown_of {w w1 w' : World} {v v' : Value} (h0 : Only Nil w w1) (hg : w1.grownBy w' v.ownBlock) (hn : Near w1 v v') : Grown w v v' w' :=
  ⟨(h0.mono (fun _ _ h => h.elim)).grown hg (fun k hk => .inr hk), hn.imp id (fun ⟨g, e, h⟩ => ⟨g, e, Nat.le_trans h0.size h⟩)⟩
set_option maxRecDepth 100000 in
theorem growI_any (v : Value) (xs : List Int) (x : Int) (base : Nat) (w : World) (h : OwnI base w v xs) (hb : base ≤ w.heap.size) (hl : xs.length ≤ 1000000) :
    Calls Tryz.prog 19 #[v, .int .i64 x] w fun e w' => ∃ v', e = .returned v' ∧ OwnI base w' v' (xs ++ [x]) ∧ Grown w v v' w' := by
  have HB := Lib.hid hb
  have HL := Lib.hid hl
  have H := Lib.hid h
  clear h hb hl
  go_enter Tryz.func19, Tryz.ntmps19
  go_wp2_with (at_builtin; refine wp_appI rfl (.tmp 5) (.tmp 7) rfl base v xs rfl (H.out.alloc _) _ x rfl (Row.new _ _ _) HL.out (by have := HB.out; simp; omega) ?_)
  intro v4 w4 hown hg hn
  have HG := Lib.hid (And.intro hown (grown_of ((Only.refl Nil w).alloc _) hg hn))
  clear hown hg hn
  go_wp2
  go_ret
  exact ⟨_, rfl, HG.out.1, HG.out.2⟩
set_option maxRecDepth 100000 in
theorem growC_any (v : Value) (zs : List (Cal × Value)) (c : Cal) (p : Value) (hone : p.oneCell' = true) (base : Nat) (w : World) (h : OwnC base w v zs) (hb : base ≤ w.heap.size) (hl : zs.length ≤ 1000000) :
    Calls Tryz.prog 20 #[v, .agg (flat1C (c, p)).toArray] w fun e w' => ∃ v', e = .returned v' ∧ OwnC base w' v' (zs ++ [(c, p)]) ∧ Grown w v v' w' := by
  have HB := Lib.hid hb
  have HL := Lib.hid hl
  have H := Lib.hid h
  have HP := Lib.hid hone
  clear h hb hl hone
  unfold flat1C
  dsimp only
  go_enter Tryz.func20, Tryz.ntmps20
  go_upto_region 1 with (fail)
  have hop := (Only.refl Nil w).alloc (.cells #[.int .i64 c.t, .int .i64 c.o, .int .i64 c.f, .int .i64 c.g, .int .i64 c.r, p] 37)
  have hrw := Row.new w 37 #[.int .i64 c.t, .int .i64 c.o, .int .i64 c.f, .int .i64 c.g, .int .i64 c.r, p]
  have HW := Lib.hid (And.intro (H.out.alloc (.cells #[.int .i64 c.t, .int .i64 c.o, .int .i64 c.f, .int .i64 c.g, .int .i64 c.r, p] 37)) (And.intro hop (Nat.le_trans HB.out hop.size)))
  clear hop
  generalize w.alloc _ = w1 at *
  generalize w.heap.size = g at *
  have c0 : w1.cell? ⟨g, 0, none⟩ = some (.int .i64 c.t) := hrw.cell_ (i := 0) rfl
  have c1 : w1.cell? ⟨g, 1, none⟩ = some (.int .i64 c.o) := hrw.cell_ (i := 1) rfl
  have c2 : w1.cell? ⟨g, 2, none⟩ = some (.int .i64 c.f) := hrw.cell_ (i := 2) rfl
  have c3 : w1.cell? ⟨g, 3, none⟩ = some (.int .i64 c.g) := hrw.cell_ (i := 3) rfl
  have c4 : w1.cell? ⟨g, 4, none⟩ = some (.int .i64 c.r) := hrw.cell_ (i := 4) rfl
  have c5 : w1.cell? ⟨g, 5, none⟩ = some (p) := hrw.cell_ (i := 5) rfl
  clear hrw
  go_wp2_with (at_builtin; refine wp_appC rfl (.tmp 5) (.tmp 7) rfl base v zs rfl (HW.out.1.alloc _) _ (c, p) rfl (Row.new _ _ _) HP.out HL.out (by have := HW.out.2.2; simp; omega) ?_)
  intro v4 w4 hown hg hn
  have HG := Lib.hid (And.intro hown (grown_of (HW.out.2.1.alloc _) hg hn))
  clear hown hg hn
  go_wp2
  go_ret
  exact ⟨_, rfl, HG.out.1, HG.out.2⟩
end Go.Proofs.YtigdbokfapedcaaGreat

/- Words put together: the library's Join. -/
import Derived.Test.YtakbbabmbhencaaDoorApp
import Derived.Test.YtakbbabmbhencaaDoorItoa
import Derived.Lib.Join
namespace Go.Proofs.YtakbbabmbhencaaDoor
open Go.RowKit

theorem join_glue : ∀ ws : List Bs, Lib.join ws [32] = glue ws
  | [] => rfl
  | [x] => Lib.join_one x _
  | x :: y :: r => by
    have ih := join_glue (y :: r)
    rw [Lib.join_cons] at ih ⊢
    rw [glue_cons x (by simp), ← ih]
    simp [Lib.joinTail]
theorem glue_len : ∀ ws : List Bs, (glue ws).length ≤ (ws.map (fun w => w.length + 1)).sum
  | [] => by simp [glue]
  | [x] => by simp [glue]
  | x :: y :: r => by
    have ih := glue_len (y :: r)
    rw [glue_cons x (by simp)]
    simp only [List.length_append, List.length_cons, List.map_cons, List.sum_cons] at ih ⊢
    omega
/-- Join of a list that the call made. -/
theorem join_any (v : Value) (ws : List Bs) (base : Nat) (w : World) (h : OwnS base w v (ws.map bs)) (h0 : ws ≠ []) (h1 : ws.length ≤ 1000) (h2 : (glue ws).length ≤ 65536) :
    Calls Tryd.prog 27 #[v, .string ⟨#[32]⟩] w fun e w' => e = .returned (.string (bs (glue ws))) ∧ Only Nil w w' := by
  obtain ⟨g, c, rfl, hg, _, hc, hcells⟩ := h.form (by simpa using h0)
  have e1 : ((ws.map bs).map (·.data.toList)) = ws := by rw [List.map_map]; exact List.map_id' ws
  have e2 : Lib.join ((ws.map bs).map (·.data.toList)) (⟨#[32]⟩ : ByteArray).data.toList = glue ws := by rw [e1]; exact join_glue ws
  refine (Tryd.strings_Join g 0 c (ws.map bs) ⟨#[32]⟩ w hcells hg (by simp; omega) hc (by rw [e2]; omega)).mono fun e w' ⟨he, hw⟩ => ⟨?_, Only.of_below hw (fun k h1 h2 => absurd h1 (by omega))⟩
  rw [he, e2]; rfl
end Go.Proofs.YtakbbabmbhencaaDoor

import Derived.Test.YtgebffjejifidaaGreatG1
import Derived.Test.YtgebffjejifidaaGreatG22
set_option linter.unusedVariables false
set_option linter.unusedSimpArgs false
set_option maxHeartbeats 40000000
set_option maxRecDepth 100000
namespace Go.Proofs.YtgebffjejifidaaGreat
open Go.RowKit Tryz
section
variable{B:Nat}{p A:Option Addr}{cp:Nat}{r:LS}{w0 w:World}
theorem qbf{r:LS}(h:vi r.op r.line=0):r.pf=r:=by unfold LS.pf;rw[h];rfl
theorem qg7(S:St w0 B p A cp [] 900 r w)(hx:Words r.xs)(ha:0<=r.a/\r.a<4294967296)(hb:0<=r.b/\r.b<4294967296)(hno:r.op≠6/\r.op≠7->r.pf=r):Calls prog 76 #[Value.pointer (some ⟨B,0,none⟩)] w (qj B p A cp w0 (.tuple #[]) r.pf):=by
 obtain⟨ol,H1⟩:∃ol,Hid (r.op=ol):=⟨_,zh rfl⟩;obtain⟨ln,H2⟩:∃ln,Hid (r.line=ln):=⟨_,zh rfl⟩;have HX:=zh hx;have HA:=zh ha;have HB:=zh hb;clear hx ha hb;go_enter func76, ntmps76
 go_upto_region 0 with(fail)
 refine qb (n:=11) 10 (fun w=>w.cell? ⟨B,4,none⟩=some (.int .i64 ol)/\w.cell? ⟨B,5,none⟩=some (.int .i64 ln)) rfl kr ⟨by rw[←H1.out];exact S.at 4 fun _=>rfl,by rw[←H2.out];exact S.at 5 fun _=>rfl⟩ (fun hHeld=> ?_);replace S:=S.drew;generalize w.drew=w2 at *;refine za 0 rfl ?_;refine za 1 rfl ?_;refine za 2 rfl ?_;refine za 3 rfl ?_;refine zt 4 rfl ?_;refine za 5 rfl ?_;refine za 6 rfl ?_;refine za 7 rfl ?_;refine za 8 rfl ?_;refine zt 9 rfl ?_;refine mpc 10 rfl kr br (fun K hK=> ?_);go_simp;refine hK.out _ _ (.inl kr) ?_;clear hK K hHeld;refine qc kr ?_ _
 by_cases o6:ol=6
 . rcases o6 with rfl
   by_cases g:ln=0
   . rcases g with rfl;go_wp2_with fail;refine yf (r':=r.pf) (qdb 2 1 S) (by unfold LS.pf;rw[H1.out,H2.out];rfl) fun w3 H=> ?_;go_wp2;go_returns;exact H.out
   by_cases g:ln=1
   . rcases g with rfl;go_wp2_with fail;refine yf (r':=r.pf) (qf4 S) (by unfold LS.pf;rw[H1.out,H2.out];rfl) fun w3 H=> ?_;go_wp2;go_returns;exact H.out
   by_cases g:ln=2
   . rcases g with rfl;go_wp2_with fail;refine yf (r':=r.pf) (qhg S) (by unfold LS.pf;rw[H1.out,H2.out];rfl) fun w3 H=> ?_;go_wp2;go_returns;exact H.out
   by_cases g:ln=3
   . rcases g with rfl;go_wp2_with fail;refine yf (r':=r.pf) (qdb 0 4 S) (by unfold LS.pf;rw[H1.out,H2.out];rfl) fun w3 H=> ?_;go_wp2;go_returns;exact H.out
   by_cases g:ln=4
   . rcases g with rfl;go_wp2_with fail;refine yf (r':=r.pf) (qg3 0 S) (by unfold LS.pf;rw[H1.out,H2.out];rfl) fun w3 H=> ?_;go_wp2;go_returns;exact H.out
   by_cases g:ln=5
   . rcases g with rfl;go_wp2_with fail;refine yf (r':=r.pf) (qc1 6 S) (by unfold LS.pf;rw[H1.out,H2.out];rfl) fun w3 H=> ?_;go_wp2;go_returns;exact H.out
   by_cases g:ln=6
   . rcases g with rfl;go_wp2_with fail;refine yf (r':=r.pf) (qcz 7 S HB.out) (by unfold LS.pf;rw[H1.out,H2.out];rfl) fun w3 H=> ?_;go_wp2;go_returns;exact H.out
   by_cases g:ln=7
   . rcases g with rfl;go_wp2_with fail;refine yf (r':=r.pf) (qei S HX.out) (by unfold LS.pf;rw[H1.out,H2.out];rfl) fun w3 H=> ?_;go_wp2;go_returns;exact H.out
   by_cases g:ln=9
   . rcases g with rfl;go_wp2_with fail;refine yf (r':=r.pf) (qde false S) (by unfold LS.pf;rw[H1.out,H2.out];rfl) fun w3 H=> ?_;go_wp2;go_returns;exact H.out
   go_wp2;go_returns;exact S.fit (qbf (by rw[H1.out,H2.out];exact(by unfold vi;repeat (first|rw[if_neg om]))))
 by_cases o7:ol=7
 . rcases o7 with rfl
   by_cases g:ln=0
   . rcases g with rfl;go_wp2_with fail;refine yf (r':=r.pf) (qdb 2 1 S) (by unfold LS.pf;rw[H1.out,H2.out];rfl) fun w3 H=> ?_;go_wp2;go_returns;exact H.out
   by_cases g:ln=1
   . rcases g with rfl;go_wp2_with fail;refine yf (r':=r.pf) (qf4 S) (by unfold LS.pf;rw[H1.out,H2.out];rfl) fun w3 H=> ?_;go_wp2;go_returns;exact H.out
   by_cases g:ln=2
   . rcases g with rfl;go_wp2_with fail;refine yf (r':=r.pf) (qhg S) (by unfold LS.pf;rw[H1.out,H2.out];rfl) fun w3 H=> ?_;go_wp2;go_returns;exact H.out
   by_cases g:ln=3
   . rcases g with rfl;go_wp2_with fail;refine yf (r':=r.pf) (qdb 0 4 S) (by unfold LS.pf;rw[H1.out,H2.out];rfl) fun w3 H=> ?_;go_wp2;go_returns;exact H.out
   by_cases g:ln=4
   . rcases g with rfl;go_wp2_with fail;refine yf (r':=r.pf) (qg3 256 S) (by unfold LS.pf;rw[H1.out,H2.out];rfl) fun w3 H=> ?_;go_wp2;go_returns;exact H.out
   by_cases g:ln=5
   . rcases g with rfl;go_wp2_with fail;refine yf (r':=r.pf) (qc1 6 S) (by unfold LS.pf;rw[H1.out,H2.out];rfl) fun w3 H=> ?_;go_wp2;go_returns;exact H.out
   by_cases g:ln=6
   . rcases g with rfl;go_wp2_with fail;refine yf (r':=r.pf) (qcz 7 S HB.out) (by unfold LS.pf;rw[H1.out,H2.out];rfl) fun w3 H=> ?_;go_wp2;go_returns;exact H.out
   by_cases g:ln=7
   . rcases g with rfl;go_wp2_with fail;refine yf (r':=r.pf) (qlq S HX.out) (by unfold LS.pf;rw[H1.out,H2.out];rfl) fun w3 H=> ?_;go_wp2;go_returns;exact H.out
   by_cases g:ln=8
   . rcases g with rfl;go_wp2_with fail;refine yf (r':=r.pf) (qrs S) (by unfold LS.pf;rw[H1.out,H2.out];rfl) fun w3 H=> ?_;go_wp2;go_returns;exact H.out
   by_cases g:ln=9
   . rcases g with rfl;go_wp2_with fail;refine yf (r':=r.pf) (qde false S) (by unfold LS.pf;rw[H1.out,H2.out];rfl) fun w3 H=> ?_;go_wp2;go_returns;exact H.out
   go_wp2;go_returns;exact S.fit (qbf (by rw[H1.out,H2.out];exact(by unfold vi;repeat (first|rw[if_neg om]))))
 go_wp2;go_returns;exact S.fit (hno ⟨by rw[H1.out];exact o6,by rw[H1.out];exact o7⟩)
end
end Go.Proofs.YtgebffjejifidaaGreat

import Derived.Test.YtgebffjejifidaaGreatG1
import Derived.Test.YtgebffjejifidaaGreatG41
set_option linter.unusedVariables false
set_option linter.unusedSimpArgs false
set_option maxHeartbeats 40000000
set_option maxRecDepth 100000
namespace Go.Proofs.YtgebffjejifidaaGreat
open Go.RowKit Tryz
section
variable{B:Nat}{p A:Option Addr}{cp:Nat}{r:LS}{w0 w:World}
theorem zc7(S:St w0 B p A cp [] 900 r w)(hx:Words r.xs)(ha:0<=r.a/\r.a<4294967296):Calls prog 39 #[Value.pointer (some ⟨B,0,none⟩)] w (qj B p A cp w0 (.tuple #[]) r.wf):=by
 obtain⟨ol,H1⟩:∃ol,Hid (r.op=ol):=⟨_,zh rfl⟩;obtain⟨ln,H2⟩:∃ln,Hid (r.line=ln):=⟨_,zh rfl⟩;have HX:=zh hx;have HA:=zh ha;clear hx ha;go_enter func39, ntmps39
 go_upto_region 1 with(fail)
 refine qb (n:=11) 10 (fun w=>w.cell? ⟨B,4,none⟩=some (.int .i64 ol)/\w.cell? ⟨B,5,none⟩=some (.int .i64 ln)) rfl kr ⟨by rw[←H1.out];exact S.at 4 fun _=>rfl,by rw[←H2.out];exact S.at 5 fun _=>rfl⟩ (fun hHeld=> ?_);replace S:=S.drew;generalize w.drew=w2 at *;refine za 0 rfl ?_;refine za 1 rfl ?_;refine za 2 rfl ?_;refine za 3 rfl ?_;refine zt 4 rfl ?_;refine za 5 rfl ?_;refine za 6 rfl ?_;refine za 7 rfl ?_;refine za 8 rfl ?_;refine zt 9 rfl ?_;refine mpc 10 rfl kr br (fun K hK=> ?_);go_simp;refine hK.out _ _ (.inl kr) ?_;clear hK K hHeld;refine qc kr ?_ _
 by_cases o1:ol=1
 . rcases o1 with rfl
   by_cases g:ln=0
   . rcases g with rfl;go_wp2_with fail;refine S.call (fun nv h=>qhb (yz h S.len (zo _) qu) HX.out) (m':=900) (by unfold LS.gSee;split<;>exact S.len) fun w S=> ?_;go_wp2_with fail;refine jr S fun w S=> ?_;go_wp2;go_returns;exact S.fit (by unfold LS.wf;rw[H1.out,H2.out];show r.gSee true=_;unfold LS.gSee;cases zz (qa r.xs 0)<;>rfl)
   by_cases g:ln=1
   . rcases g with rfl;go_wp2_with fail;obtain⟨q,hq⟩:∃q,r.at0 r.a=q:=⟨_,rfl⟩;have HQ:=zh hq;refine S.call (fun nv h=>qbe 1 3 q (yz h S.len (zo _) qu) hq) (m':=900) (by unfold LS.gClaim;split<;>exact S.len) fun w S=> ?_;clear hq
     cases q
     . go_wp2;go_returns;exact S.fit (by unfold LS.wf;rw[H1.out,H2.out];show r.gTake=_;unfold LS.gTake LS.gClaim;rw[if_neg (by rw[HQ.out];decide),if_neg (by rw[HQ.out];decide)])
     . rw[show r.gClaim 1 3=(r.gCas 1).fin true by unfold LS.gClaim;exact qab HQ.out]at S;go_wp2_with fail;refine jr S fun w S=> ?_;go_wp2;go_returns;exact S.fit (by unfold LS.wf;rw[H1.out,H2.out];show r.gTake=_;unfold LS.gTake;rw[if_pos HQ.out];rfl)
   by_cases g:ln=2
   . rcases g with rfl;go_wp2_with fail;refine yf (r':=r.wf) (qj4 S HX.out) (by unfold LS.wf;rw[H1.out,H2.out];rfl) fun w3 H=> ?_;go_wp2;go_returns;exact H.out
   by_cases g:ln=3
   . rcases g with rfl;go_wp2_with fail;refine yf (r':=r.wf) (qhb S HX.out) (by unfold LS.wf;rw[H1.out,H2.out];rfl) fun w3 H=> ?_;go_wp2;go_returns;exact H.out
   go_wp2_with fail;refine yf (r':=r.wf) (qh4 S HX.out HA.out (fun _=>qbd (by rw[H1.out,H2.out];exact(by unfold vm;repeat (first|rw[if_neg om]))))) (rfl) fun w3 H=> ?_;go_wp2;go_returns;exact H.out
 by_cases o2:ol=2
 . rcases o2 with rfl
   by_cases g:ln=0
   . rcases g with rfl;go_wp2_with fail;obtain⟨nv,hp⟩:=S.run;refine yf (r':=r.wf) (qcs (4294967295) _ ([6]) (S.keep ((Only.refl Nil w2).alloc _)) (vz hp 6) dc) (by unfold LS.wf;rw[H1.out,H2.out];rfl) fun w3 H=> ?_;go_wp2;go_returns;exact H.out
   go_wp2_with fail;refine yf (r':=r.wf) (qh4 S HX.out HA.out (fun _=>qbd (by rw[H1.out,H2.out];exact(by unfold vm;repeat (first|rw[if_neg om]))))) (rfl) fun w3 H=> ?_;go_wp2;go_returns;exact H.out
 by_cases o3:ol=3
 . rcases o3 with rfl
   by_cases g:ln=0
   . rcases g with rfl;go_wp2_with fail;refine yf (r':=r.wf) (qqf S) (by unfold LS.wf;rw[H1.out,H2.out];rfl) fun w3 H=> ?_;go_wp2;go_returns;exact H.out
   by_cases g:ln=1
   . rcases g with rfl;go_wp2_with fail;refine yf (r':=r.wf) (ql6 S HX.out HA.out) (by unfold LS.wf;rw[H1.out,H2.out];rfl) fun w3 H=> ?_;go_wp2;go_returns;exact H.out
   go_wp2_with fail;refine yf (r':=r.wf) (qh4 S HX.out HA.out (fun _=>qbd (by rw[H1.out,H2.out];exact(by unfold vm;repeat (first|rw[if_neg om]))))) (rfl) fun w3 H=> ?_;go_wp2;go_returns;exact H.out
 by_cases o4:ol=4
 . rcases o4 with rfl
   by_cases g:ln=0
   . rcases g with rfl;go_wp2_with fail;refine yf (r':=r.wf) (qhz S) (by unfold LS.wf;rw[H1.out,H2.out];rfl) fun w3 H=> ?_;go_wp2;go_returns;exact H.out
   by_cases g:ln=1
   . rcases g with rfl;go_wp2_with fail;refine(qfx S HA.out).mono ?_;rintro e w2 ⟨rfl,S⟩;go_wp2_with fail;obtain⟨nv,hp⟩:=S.run;refine yf (r':=r.wf) (qcs (qbn r.a) _ ([7,8]) (S.keep ((Only.refl Nil w2).alloc _)) (qie hp 7 8) dc) (by unfold LS.wf;rw[H1.out,H2.out];rfl) fun w3 H=> ?_;go_wp2;go_returns;exact H.out
   go_wp2_with fail;refine yf (r':=r.wf) (qh4 S HX.out HA.out (fun _=>qbd (by rw[H1.out,H2.out];exact(by unfold vm;repeat (first|rw[if_neg om]))))) (rfl) fun w3 H=> ?_;go_wp2;go_returns;exact H.out
 by_cases o8:ol=8
 . rcases o8 with rfl
   by_cases g:ln=0
   . rcases g with rfl;go_wp2_with fail;refine yf (r':=r.wf) (qhz S) (by unfold LS.wf;rw[H1.out,H2.out];rfl) fun w3 H=> ?_;go_wp2;go_returns;exact H.out
   by_cases g:ln=1
   . rcases g with rfl;go_wp2_with fail;refine(qfx S HA.out).mono ?_;rintro e w2 ⟨rfl,S⟩;have hx1:IntKind.u32.wrap (qbn r.a+1)=(qbn r.a+1)%4294967296:=rfl;go_wp2_with fail;obtain⟨nv,hp⟩:=S.run;refine yf (r':=r.wf) (qcs ((qbn r.a+1)%4294967296) _ ([10]) (S.keep ((Only.refl Nil w2).alloc _)) (vz hp 10) dc) (by unfold LS.wf;rw[H1.out,H2.out];rfl) fun w3 H=> ?_;go_wp2;go_returns;exact H.out
   go_wp2_with fail;refine yf (r':=r.wf) (qh4 S HX.out HA.out (fun _=>qbd (by rw[H1.out,H2.out];exact(by unfold vm;repeat (first|rw[if_neg om]))))) (rfl) fun w3 H=> ?_;go_wp2;go_returns;exact H.out
 go_wp2_with fail;refine yf (r':=r.wf) (qh4 S HX.out HA.out (fun ho=>qbd (by rw[H1.out]at ho;rw[H1.out,H2.out];exact(by unfold vm;repeat (first|rw[if_neg om]))))) (rfl) fun w3 H=> ?_;go_wp2;go_returns;exact H.out
end
end Go.Proofs.YtgebffjejifidaaGreat

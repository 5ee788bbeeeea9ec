/-
  The search for hoists, held against digits.
-/
import Derived.Test.YtdikflklkmfcfaaFD
namespace Go.Proofs.Ytdikflklkmfcfaa
open Go.RowKit Go.Shelf
set_option linter.unusedSimpArgs false
set_option linter.unusedVariables false
attribute [local go_sem] Oper.semAt_some

theorem ap_news {W : World} {b : Nat} {u : Value} {t : TypeId} (h : W.heap[b]? = some (.cells #[u] t (0, 0))) : ∀ (j : Nat) (x : Value), [u][j]? = some x → W.cell? ((⟨b, 0, none⟩ : Addr).add j) = some x := World.news_of_block (cs := #[u]) h
theorem alloc2_new (W : World) (o1 o2 : Obj) : ((W.alloc o1).alloc o2).heap[W.heap.size + 1]? = some o2 := by
  have h := heap_alloc_new (W.alloc o1) o2
  rwa [World.size_alloc] at h
theorem hat_keep {v : Value} {g n cap S : Nat} {X W' : World} (h : (v = .slice (some ⟨g, 0, none⟩) n cap ∧ X.grownBy W' (some g)) ∨ (g = X.heap.size ∧ X.grownBy W' none)) (hv : ∀ g, v.ownBlock = some g → g < S) :
    ∀ b o, S ≤ b → X.heap[b]? = some o → W'.heap[b]? = some o := fun b o hb ho => by
  have hlt := (Array.getElem?_eq_some_iff.1 ho).1
  rcases h with ⟨e, hg⟩ | ⟨e, hg⟩
  · subst e; have := hv g rfl; exact (hg.block b hlt (fun e => by have e : b = g := Option.some.inj e; omega)).trans ho
  · exact (hg.block b hlt (by simp)).trans ho
theorem mem10 {ds : List Nat} {d : Nat} (h : ∀ x, x ∈ ds → x < 10) (hd : d < 10) : ∀ x, x ∈ ds ++ [d] → x < 10 := fun x hx => by
  rcases List.mem_append.1 hx with h' | h'
  · exact h x h'
  · have : x = d := by simpa using h'
    omega
theorem grw_same {W X : World} (G : Grw none none W X) {g : Nat} (hg : g < W.heap.size) : X.heap[g]? = W.heap[g]? := G.block g hg (by simp) (by simp)
set_option maxRecDepth 100000 in
set_option maxHeartbeats 40000000 in
theorem hangSD {n c0 c1 n1 B lb wb l N m : Nat} {db : Nat} {V : World} {want : Nat → Nat → Bool} {J Jx : List Hst → (Nat → Prop) → World → Prop}
    (hn : 1 ≤ n ∧ n ≤ 4) (hn1 : n1 ≤ B) (hlb : lb < n1 ∧ ¬ (c0 ≤ lb ∧ lb < c1)) (hwb : wb < n1 ∧ ¬ (c0 ≤ wb ∧ wb < c1)) (hlc : V.cell? ⟨lb, 0, none⟩ = some (.int .i64 (n : Int))) (hwc : V.cell? ⟨wb, 0, none⟩ = some (.func (.func 41) #[] #[.pointer (some ⟨db, 0, none⟩)]))
    (hW : ∀ (p d : Nat) (W : World), p < n → d < 10 → Lo c0 c1 n1 V W → Calls Try.prog 41 (#[.int .i64 (p : Int), .int .i64 (d : Int), .pointer (some ⟨db, 0, none⟩)]) W fun e W' => e = .returned (.bool (want p d)) ∧ W = W')
    (hJ : JOk B J) (hY : YdH c0 c1 n1 B l N m J Jx)
    (r : Nat) (IH : ∀ (hs ds : List Nat) (L : Nat) (hv dv : Value) (pre : List Hst) (O : Nat → Prop) (W : World), hs.length + r = n → (∀ d, d ∈ ds → d < 10) → L < 8192 → pre.length + (tre want r hs ds L).length ≤ N → StH c0 c1 n1 B lb wb l V J hs ds hv dv pre O W →
      Calls Try.prog 43 #[hv, dv, .int .i64 (L : Int), .pointer (some ⟨lb, 0, none⟩), .pointer (some ⟨B, 0, none⟩), .pointer (some ⟨wb, 0, none⟩), .pointer (some ⟨B + 1, 0, none⟩)] W (HPost c0 c1 n1 B lb wb l V want J Jx r hs ds L hv dv pre O W))
    (hs ds : List Nat) (L : Nat) (hv dv : Value) (pre : List Hst) (O : Nat → Prop) (W : World) (hlen : hs.length + (r + 1) = n) (hd : ∀ d, d ∈ ds → d < 10) (hL : L < 8192) (hN : pre.length + (tre want (r + 1) hs ds L).length ≤ N) (hst : StH c0 c1 n1 B lb wb l V J hs ds hv dv pre O W) :
    Calls Try.prog 43 #[hv, dv, .int .i64 (L : Int), .pointer (some ⟨lb, 0, none⟩), .pointer (some ⟨B, 0, none⟩), .pointer (some ⟨wb, 0, none⟩), .pointer (some ⟨B + 1, 0, none⟩)] W (HPost c0 c1 n1 B lb wb l V want J Jx (r + 1) hs ds L hv dv pre O W) := by
  obtain ⟨i0, hi0, hz0, hz1, hz2⟩ := info_parts7 int_info7
  have HI := Lib.hid (And.intro hi0 (And.intro hz0 (And.intro hz1 hz2)))
  clear hi0 hz0 hz1 hz2
  obtain ⟨-, A, cap, rfl, hcap, hmax, -⟩ := own_sl7 hst.rh
  obtain ⟨-, A2, cap2, rfl, hcap2, hmax2, -⟩ := own_sl7 hst.rd
  have x1 := hst.lo.cell hlb.1 hlb.2 hlc
  have HE := Lib.hid (show (((hs.length : Nat) : Int) == (n : Int)) = false from beq_eq_false_iff_ne.2 (by omega))
  have hp4 : hs.length < 4 := by omega
  have hpn : hs.length < n := by omega
  have HW := Lib.hid hW
  have HIH := Lib.hid IH
  have HD := Lib.hid hd
  have HN := Lib.hid hN
  have HWC := Lib.hid (And.intro hwb hwc)
  have HLN := Lib.hid hlen
  have L0 := LoopH.nil (want := want) (r := r) (L := L) hst
  have HL0 := Lib.hid L0
  clear hW IH hd hN hlc hwc hlb hwb hn hlen hst L0
  unfold maxLen at hmax hmax2
  have hE := HE.out
  go_enter Try.func43, Try.ntmps43
  go_wp2_with fail
  clear hE x1
  go_loopw [23] (fun i wr => ∃ k : Nat, k ≤ 13 ∧ i = .int .i64 k ∧ LoopH c0 c1 n1 B lb wb l V want J r hs ds L (.slice A hs.length cap) (.slice A2 hs.length cap2) pre O W k wr) (fun i _ => 13 - (RowKit.intOf i).toNat)
  case atStart => exact ⟨0, by omega, rfl, HL0.out⟩
  case round =>
    obtain ⟨k, hk, rfl, hLk⟩ := hrel
    have HLK := Lib.hid hLk
    clear hLk
    by_cases hlt : k < 13
    · cases hB : hasB L k with
      | false =>
        have HB := Lib.hid hB
        clear hB
        go_wp2_with fail
        refine (has_any L k _ hL hlt).mono ?_
        rintro e w1 ⟨rfl, rfl⟩
        rw [HB.out]
        go_wp2_with fail
        go_roundw
        case rel => exact ⟨k + 1, by omega, by go_num, HLK.out.no (by simp [canB, HB.out])⟩
        case measure => simp [RowKit.intOf]; omega
      | true =>
        have HB := Lib.hid hB
        clear hB
        cases hM : mayB k hs.length with
        | false =>
          have HM := Lib.hid hM
          clear hM
          go_wp2_with fail
          refine (has_any L k _ hL hlt).mono ?_
          rintro e w1 ⟨rfl, rfl⟩
          rw [HB.out]
          go_wp2_with fail
          refine (may_any k hs.length _ hlt (by omega)).mono ?_
          rintro e w1 ⟨rfl, rfl⟩
          rw [HM.out]
          go_wp2_with fail
          go_roundw
          case rel => exact ⟨k + 1, by omega, by go_num, HLK.out.no (by simp [canB, HB.out, HM.out])⟩
          case measure => simp [RowKit.intOf]; omega
        | true =>
          have HM := Lib.hid hM
          clear hM
          have hkn : k < 10 + hs.length := by have h := HM.out; simpa [mayB] using h
          obtain ⟨xs, O', hx, hst, hO, hF⟩ := HLK.out
          obtain ⟨hdl, A3, cap3, e3, -, -, hA2⟩ := own_sl7 hst.rd
          injection e3 with e31 _ e32
          subst e31 e32
          have HA2 := Lib.hid hA2
          have HDL := Lib.hid hdl
          have wc := hst.lo.cell HWC.out.1.1 HWC.out.1.2 HWC.out.2
          have hc := hst.hb
          have HHC := Lib.hid hc
          have HST := Lib.hid hst
          have HX := Lib.hid hx
          have HO := Lib.hid hO
          have HF := Lib.hid hF
          clear hx hO hF hA2 hdl hc
          obtain ⟨d, hd⟩ : ∃ d, d = digF k ds := ⟨_, rfl⟩
          have hd10 : d < 10 := by rw [hd]; exact digF_lt hlt HD.out
          have HDD := Lib.hid hd
          clear hd
          go_wp2_with fail
          refine (has_any L k _ hL hlt).mono ?_
          rintro e w1 ⟨rfl, rfl⟩
          rw [HB.out]
          go_wp2_with fail
          refine (may_any k hs.length _ hlt (by omega)).mono ?_
          rintro e w1 ⟨rfl, rfl⟩
          rw [HM.out]
          go_wp2_with fail
          refine (meaning_any k ds A2 hs.length cap2 _ hlt HDL.out HA2.out hkn).mono ?_
          rintro e w1 ⟨rfl, rfl⟩
          rw [← HDD.out]
          go_wp2_with fail
          cases hw : want hs.length d with
          | false =>
            have HWT := Lib.hid hw
            clear hw
            go_quiet ((go_at_call 41; exact Calls.quiet_of_same ((HW.out hs.length d _ hpn hd10 (HST.out.lo.drewN _)).mono fun e w' h => ⟨h.1.trans (by rw [HWT.out]), h.2.symm⟩)))
            all_goals
              go_wp2_with fail
              go_roundw
              case rel => exact ⟨k + 1, by omega, by go_num, (HLK.out.drew hJ _).no (by unfold canB; rw [HB.out, HM.out, ← HDD.out, HWT.out]; rfl)⟩
              case measure => simp [RowKit.intOf]; omega
          | true =>
            have HWT := Lib.hid hw
            clear hw
            have HC := Lib.hid (show canB want hs ds L k = true by unfold canB; rw [HB.out, HM.out, ← HDD.out, HWT.out]; rfl)
            have hc : wr.cell? ⟨B + 1, 0, none⟩ = some (FVH lb wb B) := HHC.out
            unfold FVH at hc
            have hfar := HST.out.far (b := B + 1) (by omega)
            have HFAR := Lib.hid hfar
            clear hfar
            have lc := World.block_lt_of_cell? wr ⟨B + 1, 0, none⟩ hc
            have szw := HST.out.sz
            have lcB : B < wr.heap.size := by omega
            go_region_law (first
              | (go_simp; go_at_call 41; refine (HW.out hs.length d _ hpn hd10 (Lo.dr HST.out.lo)).mono ?_; rintro e w1 ⟨rfl, rfl⟩; rw [HWT.out])
              | (go_simp; go_at_call 31; refine (minus_any L k _ hL hlt).mono ?_; rintro e w1 ⟨rfl, rfl⟩)
              | (refine step_app7 _ _ _ rfl (by rfl) (B + 2) 3 i0 _ 1 8 Try.underlying22 HI.out.1 HI.out.2.1 HI.out.2.2.1 HI.out.2.2.2 rfl (by decide) (.slice A hs.length cap) hs.length (inN hs) rfl (by first | exact HST.out.rh | exact own_same HST.out.rh (fun g hg => grw_same (by first | exact (Grw.rf _ _ _).dr | exact ((Grw.rf _ _ _).dr).al _ | exact (((Grw.rf _ _ _).dr).al _).al _) ((HST.out.rh.lt g hg).2))) _ 1 1 [.int .i64 (k : Int)] rfl rfl (by first | exact ap_news (heap_alloc_new _ _) | exact ap_news ((heap_alloc_old _ _ (by simp)).trans (heap_alloc_new _ _)) | exact ap_news (alloc2_new _ _ _)) (by simp [Value.oneCell']) (by decide) (by unfold maxLen; omega) (by omega) (by (try simp only [World.size_alloc, World.size_drew]); omega) _ rfl ?_; intro g1 cp1 w2 hown1 hat1 hlt1; have P1 : Ap (.slice A hs.length cap) hs.length g1 cp1 wr w2 := ⟨_, by first | exact (Grw.rf _ _ _).dr | exact ((Grw.rf _ _ _).dr).al _ | exact (((Grw.rf _ _ _).dr).al _).al _, hat1⟩; have KP := Lib.hid (hat_keep hat1 (fun g hg => (HST.out.rh.lt g hg).2)); have R2 := Lib.hid (P1.row (fun k a b => HST.out.ne k b a) HST.out.rd); have c2 := P1.cell HFAR.out.1 hc; have lc2 := World.block_lt_of_cell? w2 ⟨B + 1, 0, none⟩ c2; have zz2 := P1.size; have HO1 := Lib.hid hown1; clear hown1 hat1)
              | (refine step_app7 _ _ _ rfl (by rfl) (B + 2) 3 i0 _ 1 8 Try.underlying22 HI.out.1 HI.out.2.1 HI.out.2.2.1 HI.out.2.2.2 rfl (by decide) (.slice A2 hs.length cap2) hs.length (inN ds) rfl (by first | exact R2.out | exact R2.out.alloc _) _ 1 1 [.int .i64 (d : Int)] rfl rfl (by first | exact ap_news (heap_alloc_new _ _) | exact ap_news (KP.out _ _ (by (try simp only [World.size_alloc, World.size_drew]); omega) (heap_alloc_new _ _)) | exact ap_news (KP.out _ _ (by (try simp only [World.size_alloc, World.size_drew]); omega) ((heap_alloc_old _ _ (by simp)).trans (heap_alloc_new _ _))) | exact ap_news (KP.out _ _ (by (try simp only [World.size_alloc, World.size_drew]); omega) (alloc2_new _ _ _))) (by simp [Value.oneCell']) (by decide) (by unfold maxLen; omega) (by omega) (by (try simp only [World.size_alloc, World.size_drew]); omega) _ rfl ?_; intro g2 cp2 w4 hown2 hat2 hlt2; have P2 : Ap (.slice A2 hs.length cap2) hs.length g2 cp2 w2 w4 := ⟨_, by first | exact Grw.rf _ _ _ | exact (Grw.rf _ _ _).al _, hat2⟩; have c4 := P2.cell HFAR.out.2 c2; have HO2 := Lib.hid hown2; clear hown2 hat2)
              | (go_simp; go_at_call 43; obtain ⟨hsp, p, q, hG, ho1, ho2⟩ := step_pair hJ hn1 HST.out P1 HO1.out hlt1 P2 HO2.out; refine (HIH.out (hs ++ [k]) (ds ++ [d]) (clr L k) _ _ (pre ++ xs) O' w4 (by have := HLN.out; simp only [List.length_append, List.length_cons, List.length_nil]; omega) (mem10 HD.out hd10) (clr_lt hL) (by rw [HDD.out]; exact LoopH.bound hlt HC.out HX.out HN.out) hsp).mono ?_; rintro e w6 ⟨b, rfl, hpost⟩; have HPP := Lib.hid hpost; have HG := Lib.hid (And.intro hG (And.intro ho1 ho2)); clear hpost hG ho1 ho2 hsp)
              | fail)
            all_goals
              rw [HDD.out] at HPP
              cases b with
              | true =>
                go_wp2_with fail
                go_roundw
                case rel => exact ⟨k + 1, by omega, by go_num, LoopH.yes hJ HC.out HX.out HST.out HO.out HF.out HG.out.1 HG.out.2.1 HG.out.2.2 (HPP.out.1 (by simp))⟩
                case measure => simp [RowKit.intOf]; omega
              | false =>
                go_wp2
                go_ret
                exact ⟨false, rfl, (fun h => by cases h), (fun _ => LoopH.stop hlt HC.out HX.out (HPP.out.2 (by simp)))⟩
    · obtain rfl : k = 13 := by omega
      have hend := HLK.out.end
      have HEND := Lib.hid hend
      clear hend
      go_wp2
      go_ret
      exact ⟨true, rfl, (fun _ => HEND.out), (fun h => by cases h)⟩
end Go.Proofs.Ytdikflklkmfcfaa

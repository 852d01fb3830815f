/-
  Find of layer 11 (chain), by its walk. Conditions: as the theorem's premises say (up to 2000 bytes).
-/
import Derived.Test.YtjcehdibklndkaaEi
import Derived.BigQuiet
import Derived.WalkSmall
import Derived.Deep.QuietTactic
import Derived.Deep.RegionHeld3
namespace Go.Proofs.Ytjcehdibklndkaa
open Go.RowKit

set_option maxHeartbeats 2000000 in
set_option maxRecDepth 100000 in
theorem zfind_any (b : Nat) (T P : List Nat) (a depth : Int) (w : World) (hT : T.length ≤ 2000) (hlt : ∀ x ∈ T, x < 256) (ha : Bm.IntOk a) (hd : Bm.IntOk depth) (h : PF w b T P) :
    Calls Try.prog 26 #[.pointer (some ⟨b, 0, none⟩), .int .i64 a, .int .i64 depth] w fun e w' => e = .returned (.tuple #[.int .i64 ((Bm.findI T P a depth).1 : Int), .int .i64 ((Bm.findI T P a depth).2 : Int)]) ∧ Below w.heap.size w w' := by
  have Hhas := Lib.hid (zhas_of (some ⟨b, 0, none⟩) T.length a w (by omega) (zplen_at b T w h.text))
  obtain ⟨hd0, hd1⟩ := hd
  by_cases hri : 0 ≤ a ∧ a + 3 ≤ T.length
  · rw [decide_eq_true hri] at Hhas
    obtain ⟨n, rfl⟩ := Int.eq_ofNat_of_zero_le hri.1
    have hn : n + 3 ≤ T.length := by omega
    obtain ⟨C, L, A, hrow, hpc, hok, hpl⟩ := h
    obtain ⟨r, hr⟩ : ∃ r, r = Bm.findI T P (n : Int) depth := ⟨_, rfl⟩
    have hr2 := hr.trans (Bm.findI_C T P n depth hn hpl)
    rw [← hr]
    obtain ⟨c, hc⟩ : ∃ c, c = Bm.hshN T n := ⟨_, rfl⟩
    have hc3 : c < 2003 := by rw [hc]; exact Bm.hshN_lt T n
    have Hch := Lib.hid (fun W => zchain_any b n T W hlt hT hn)
    rw [← hc] at hr2 Hch
    have hlk := hok c hc3
    have hcp : ∀ p ∈ Bm.chnN T P c, p + 3 ≤ T.length := fun p hp => hpl p (Bm.chnN_mem hp)
    have hcl := Bm.chnN_length T P c
    have Hpl := Lib.hid hcp
    have Hlk := Lib.hid hlk
    have Hr := Lib.hid hr2
    have Hrow := Lib.hid hrow
    have Hpc := Lib.hid hpc
    have Hsame := Lib.hid (fun W (p : Nat) (hp : p + 3 ≤ T.length) => zpsame_any T (p : Int) (n : Int) W (by omega) hlt (by constructor <;> omega) (by constructor <;> omega))
    have hL : L c ≤ T.length := Bm.lnk_lt hlk (fun p hp => by have := hcp p hp; omega)
    clear hr hr2 hri hrow hpc hok hpl hlt ha hlk hcp hc
    obtain ⟨ch, hch⟩ : ∃ ch, ch = Bm.chnN T P c := ⟨_, rfl⟩
    rw [← hch] at hcl Hpl Hlk Hr
    clear hch
    go_enter Try.func26, Try.ntmps26
    go_wp2_with fail
    refine Hhas.out.mono ?_
    rintro e w1 ⟨rfl, m, rfl⟩
    clear Hhas
    go_wp2
    obtain ⟨D, hD⟩ : ∃ D, D = min depth 1000 := ⟨_, rfl⟩
    have hD0 : -9223372036854775808 ≤ D := by omega
    have hD1 : D ≤ 1000 := by omega
    rw [← hD]
    rw [← hD] at Hr
    clear hD hd0 hd1
    have hcL : ∀ W, Below w.heap.size w W → W.cell? ⟨b, 2001 + c, none⟩ = some (.int .i16 (L c : Int)) := fun W hb => ((Hrow.out.keep (hb.block b Hrow.out.lt)).cell _).trans (Hpc.out.last c hc3)
    have hc0 : Hid (∀ W, Below w.heap.size w W → W.cell? ⟨b, 0, none⟩ = some (.string (strOf T))) := Lib.hid fun W hb => ((Hrow.out.keep (hb.block b Hrow.out.lt)).cell _).trans Hpc.out.c0
    have hb0 : Below w.heap.size w (w.drewN m) := below_drewN (Below.refl _ _) m
    generalize w.drewN m = w1 at *
    have hci0 : (0 : Int) ≤ (c : Int) := by omega
    have hci : (c : Int) < 2003 := by omega
    go_region_held3 (fun W => Below w.heap.size w W) (first | with_reducible assumption | exact hb0.drew) (first | (go_at_call 30; (with_reducible refine (Hch.out _ (hc0.out _ (by with_reducible assumption))).mono ?_); rintro e wX ⟨rfl, hbX⟩; have HX : Below w.heap.size w wX := Below.trans (by with_reducible assumption) (hbX.mono (Below.size (by with_reducible assumption))); clear hbX))
    have hrowX : Row wX b 62 C := Hrow.out.keep (HX.block b Hrow.out.lt)
    have HbX := Lib.hid HX
    have cT := (hrowX.cell 0).trans Hpc.out.c0
    have cA : Hid (∀ i, i < 2000 → wX.cell? ⟨b, 4004 + i, none⟩ = some (.int .i16 (A i : Int))) := Lib.hid fun i hi => (hrowX.cell _).trans (Hpc.out.ahead i hi)
    clear hrowX HX hcL hc0 hb0 Hch Hrow Hpc
    go_wp2
    go_loopw [8, 9, 10, 11, 12, 13] (fun ov nv lv xv _ _ wr => ∃ (o l v m : Nat) (q : Int) (ps : List Nat), ov = .int .i64 (o : Int) ∧ nv = .int .i64 (l : Int) ∧ lv = .int .i64 q ∧ xv = .int .i16 (v : Int) ∧ o ≤ 2000 ∧ l ≤ 2000 ∧ -9223372036854775808 ≤ q ∧ q ≤ 1000 ∧ Hid (Bm.Lnk A v ps) ∧ Hid (∀ p ∈ ps, p + 3 ≤ T.length) ∧ ps.length ≤ P.length ∧ Hid (r = Bm.findC T n ps o l q.toNat) ∧ Hid (wr = wX.drewN m)) (fun _ _ _ xv _ _ _ => Bm.lnkN A P.length (intOf xv).toNat)
    case atStart => exact ⟨0, 0, L c, 0, D, ch, rfl, rfl, rfl, rfl, by omega, by omega, hD0, hD1, Hlk, Hpl, hcl, Hr, Lib.hid rfl⟩
    case round =>
      obtain ⟨o, l, v, m, q, ps, rfl, rfl, rfl, rfl, ho, hl, hq0, hq1, hlk, hpp, hpl, hres, hw⟩ := hrel
      have hwr := hw.out
      subst hwr
      clear hw Hr Hlk Hpl hcl hD0 hD1 hL
      cases ps with
      | nil =>
        obtain rfl : v = 0 := hlk.out
        have hx := hres.out
        rw [Bm.findC] at hx
        have Hx := Lib.hid hx
        clear hx hres hlk hpp hpl Hsame cA cT
        go_wp2
        go_ret2
        rw [Hx.out]
        exact ⟨rfl, below_drewN HbX.out m⟩
      | cons p ps =>
        obtain ⟨hv, hlk2⟩ := hlk.out
        subst hv
        by_cases hq : q ≤ 0
        · have hx := hres.out
          rw [show q.toNat = 0 by omega, Bm.findC_zero] at hx
          have Hx := Lib.hid hx
          clear hx hres hlk hlk2 hpp hpl Hsame cA cT
          go_wp2
          go_ret2
          rw [Hx.out]
          exact ⟨rfl, below_drewN HbX.out m⟩
        · have hp3 := hpp.out p List.mem_cons_self
          have hpp2 : Hid (∀ x ∈ ps, x + 3 ≤ T.length) := Lib.hid fun x hx => hpp.out x (List.mem_cons_of_mem _ hx)
          have hplc : ps.length + 1 ≤ P.length := hpl
          have hm1 : Bm.lnkN A P.length (p + 1) = ps.length + 1 := Bm.lnkN_eq P.length (p + 1) (p :: ps) hlk.out hplc
          have hm2 : Bm.lnkN A P.length (A p) = ps.length := Bm.lnkN_eq P.length (A p) ps hlk2 (by omega)
          have Hplc := Lib.hid hplc
          have Hm1 := Lib.hid hm1
          have Hm2 := Lib.hid hm2
          have Hlk2 := Lib.hid hlk2
          have hAp : A p ≤ T.length := Bm.lnk_lt hlk2 (fun x hx => by have := hpp2.out x hx; omega)
          have hsI : Bm.sameI T (p : Int) (n : Int) = Bm.sameN T p n := by rw [Bm.sameI, if_pos ⟨by omega, by omega, by omega, by omega⟩, Int.toNat_natCast, Int.toNat_natCast]
          have hsm := fun W => Hsame.out W p hp3
          rw [hsI] at hsm
          have Hsm := Lib.hid hsm
          have hsle := (Bm.sameN_le T p n).1
          have hx := hres.out
          rw [Bm.findC, if_neg (by omega : ¬ q.toNat = 0)] at hx
          have Hx := Lib.hid hx
          have cp := cA.out p (by omega)
          clear hx hres hlk hlk2 hpp hpl Hsame hsI hsm cA hm1 hm2 hplc
          generalize Bm.sameN T p n = y at *
          go_wp2_with fail
          refine (Hsm.out _).mono ?_
          rintro e wY ⟨rfl, m2, rfl⟩
          rw [World.drewN_drewN]
          have hpl2 : ps.length ≤ P.length := Nat.le_trans (Nat.le_succ _) Hplc.out
          have Hms : Hid (Bm.lnkN A P.length (A p) < Bm.lnkN A P.length (p + 1)) := Lib.hid (by rw [Hm1.out, Hm2.out]; omega)
          have hqt : q.toNat - 1 = (q - 1).toNat := by omega
          rw [hqt] at Hx
          clear Hm1 Hm2 Hsm hqt
          by_cases hy : y < 3
          · have Hx2 := Lib.hid (show r = Bm.findC T n ps o l q.toNat by rw [Hx.out, if_pos hy])
            clear Hx
            go_wp2
            go_roundw
            case rel => exact ⟨o, l, A p, _, q, ps, by go_num, by go_num, by go_num, rfl, by omega, by omega, by omega, by omega, Hlk2, hpp2, by omega, Hx2, Lib.hid rfl⟩
            case measure => exact Hms.out
          · rw [if_neg hy] at Hx
            by_cases hpn : p < n
            · by_cases hly : l < y
              · have Hx2 := Lib.hid (show r = Bm.findC T n ps (n - p) y (q - 1).toNat by rw [Hx.out, if_pos ⟨hpn, .inl hly⟩])
                clear Hx
                go_wp2
                go_roundw
                case rel => exact ⟨n - p, y, A p, _, q - 1, ps, by go_num, by go_num, by go_num, rfl, by omega, by omega, by omega, by omega, Hlk2, hpp2, by omega, Hx2, Lib.hid rfl⟩
                case measure => exact Hms.out
              · by_cases hyl : y = l
                · subst hyl
                  by_cases hno : n - p < o
                  · have Hx2 := Lib.hid (show r = Bm.findC T n ps (n - p) y (q - 1).toNat by rw [Hx.out, if_pos ⟨hpn, .inr ⟨rfl, hno⟩⟩])
                    clear Hx
                    go_wp2
                    go_roundw
                    case rel => exact ⟨n - p, y, A p, _, q - 1, ps, by go_num, by go_num, by go_num, rfl, by omega, by omega, by omega, by omega, Hlk2, hpp2, by omega, Hx2, Lib.hid rfl⟩
                    case measure => exact Hms.out
                  · have Hx2 := Lib.hid (show r = Bm.findC T n ps o y (q - 1).toNat by rw [Hx.out, if_neg (fun h => by omega)])
                    clear Hx
                    go_wp2
                    go_roundw
                    case rel => exact ⟨o, y, A p, _, q - 1, ps, by go_num, by go_num, by go_num, rfl, by omega, by omega, by omega, by omega, Hlk2, hpp2, by omega, Hx2, Lib.hid rfl⟩
                    case measure => exact Hms.out
                · have Hx2 := Lib.hid (show r = Bm.findC T n ps o l (q - 1).toNat by rw [Hx.out, if_neg (fun h => by omega)])
                  clear Hx
                  go_wp2
                  go_roundw
                  case rel => exact ⟨o, l, A p, _, q - 1, ps, by go_num, by go_num, by go_num, rfl, by omega, by omega, by omega, by omega, Hlk2, hpp2, by omega, Hx2, Lib.hid rfl⟩
                  case measure => exact Hms.out
            · have Hx2 := Lib.hid (show r = Bm.findC T n ps o l (q - 1).toNat by rw [Hx.out, if_neg (fun h => by omega)])
              clear Hx
              go_wp2
              go_roundw
              case rel => exact ⟨o, l, A p, _, q - 1, ps, by go_num, by go_num, by go_num, rfl, by omega, by omega, by omega, by omega, Hlk2, hpp2, by omega, Hx2, Lib.hid rfl⟩
              case measure => exact Hms.out
  · rw [decide_eq_false hri] at Hhas
    have hrf : Bm.findI T P a depth = (0, 0) := by
      have h1 : Bm.rightI T a = false := decide_eq_false hri
      rw [Bm.findI, h1, if_neg Bool.false_ne_true]
    rw [hrf]
    clear hrf hri h hlt ha
    go_enter Try.func26, Try.ntmps26
    go_wp2_with fail
    refine Hhas.out.mono ?_
    rintro e w1 ⟨rfl, m, rfl⟩
    go_wp2
    go_ret2
    exact ⟨rfl, below_drewN (Below.refl _ _) m⟩
end Go.Proofs.Ytjcehdibklndkaa

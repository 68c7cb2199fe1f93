/- The walk of the document's one. -/
import Derived.Test.YtmcikjihkgplaaaDoorKOne
namespace Go.Proofs.YtmcikjihkgplaaaDoor
set_option maxRecDepth 1000000
open Go.ChangeShapes Go.WideShapes Go.ChangeAt Go.RowKit

def AggO (o : OpT) : Value := .agg #[.int .i64 o.k, .int .i64 o.n, .int .i64 o.m, .int .i64 o.l]
theorem tells_new1 (o : OpT) (w : World) (c : Nat) (hc : c < 256) : Calls Tryd.prog 34 #[.slice (some ⟨w.heap.size, 0, none⟩) 1 1, .agg #[.int .i64 o.k, .int .i64 o.n, .int .i64 o.m, .int .i64 o.l]] (w.alloc (.cells #[.int .u8 c] 5)) fun e w' => e = .returned (.bool (tellsB [(c : Int)] o)) ∧ Below w.heap.size w w' :=
  (tells_ref _ [(c : Int)] o _ (ownB1 w c).bts (fun n hn => by rw [List.mem_singleton] at hn; subst hn; omega) (by simp)).mono fun e w' ⟨he, hb⟩ => ⟨he, (below_new w _).trans (hb.mono (by simp))⟩
theorem tells_new2 (o : OpT) (w : World) (c n : Nat) (hc : c < 256) (hn : n < 256) : Calls Tryd.prog 34 #[.slice (some ⟨w.heap.size, 0, none⟩) 2 2, .agg #[.int .i64 o.k, .int .i64 o.n, .int .i64 o.m, .int .i64 o.l]] (w.alloc (.cells #[.int .u8 c, .int .u8 n] 5)) fun e w' => e = .returned (.bool (tellsB [(c : Int), (n : Int)] o)) ∧ Below w.heap.size w w' :=
  (tells_ref _ [(c : Int), (n : Int)] o _ (ownB2 w c n).bts (fun m hm => by simp at hm; rcases hm with rfl | rfl <;> omega) (by simp)).mono fun e w' ⟨he, hb⟩ => ⟨he, (below_new w _).trans (hb.mono (by simp))⟩
theorem tells_new3 (o : OpT) (w : World) (c n m : Int) (hc : 0 ≤ c ∧ c < 256) (hn : 0 ≤ n ∧ n < 256) (hm : 0 ≤ m ∧ m < 256) : Calls Tryd.prog 34 #[.slice (some ⟨w.heap.size, 0, none⟩) 3 3, .agg #[.int .i64 o.k, .int .i64 o.n, .int .i64 o.m, .int .i64 o.l]] (w.alloc (.cells #[.int .u8 c, .int .u8 n, .int .u8 m] 5)) fun e w' => e = .returned (.bool (tellsB [c, n, m] o)) ∧ Below w.heap.size w w' :=
  (tells_ref _ [c, n, m] o _ (ownB3 w c n m).bts (fun x hx => by simp at hx; rcases hx with rfl | rfl | rfl <;> omega) (by simp)).mono fun e w' ⟨he, hb⟩ => ⟨he, (below_new w _).trans (hb.mono (by simp))⟩

theorem ok3_next {o : OpT} {c : Nat} (hc : c = 132 ∨ c = 134) (h : ok3 o c = false) (h32 : c = 134 → ok3 o 132 = false) :
    c + 2 = 132 ∨ (c + 2 = 134 ∧ ok3 o 132 = false) ∨ (c + 2 = 136 ∧ ok3 o 132 = false ∧ ok3 o 134 = false) := by
  rcases hc with rfl | rfl
  · exact .inr (.inl ⟨rfl, h⟩)
  · exact .inr (.inr ⟨rfl, h32 rfl, h⟩)
set_option maxHeartbeats 8000000 in
theorem one_ref (o : OpT) (w : World) : Calls Tryd.prog 29 #[.agg #[.int .i64 o.k, .int .i64 o.n, .int .i64 o.m, .int .i64 o.l]] w (OnePost o w) := by
  unfold OnePost
  have B0 := Lib.hid (box_new w (.int .i64 o.k) (.int .i64 o.n) (.int .i64 o.m) (.int .i64 o.l))
  have K0 := Lib.hid (below_new w (.cells #[.int .i64 o.k, .int .i64 o.n, .int .i64 o.m, .int .i64 o.l] 25))
  go_enter Tryd.func29, Tryd.ntmps29
  go_upto_region 2 with fail
  generalize w.alloc (.cells #[.int .i64 o.k, .int .i64 o.n, .int .i64 o.m, .int .i64 o.l] 25) = w1 at *
  have KK : Hid (∀ w', Below w1.heap.size w1 w' → Below w.heap.size w w') := Lib.hid fun w' h => K0.out.trans (h.mono K0.out.size)
  have BB : Hid (∀ w', Below w1.heap.size w1 w' → Box w.heap.size (.int .i64 o.k) (.int .i64 o.n) (.int .i64 o.m) (.int .i64 o.l) w') := Lib.hid fun w' h => B0.out.next h
  go_loopw [4] (fun x wr => ∃ c : Nat, c ≤ 256 ∧ x = .int .i64 c ∧ Hid (∀ d : Nat, d < c → tellsB [(d : Int)] o = false) ∧ Hid (Below w1.heap.size w1 wr)) (fun x _ => 256 - (RowKit.intOf x).toNat)
  case atStart => exact ⟨0, by omega, rfl, Lib.hid fun d hd => by omega, Lib.hid (Below.refl _ _)⟩
  case round =>
    obtain ⟨c, hc, rfl, HN, HB⟩ := hrel
    by_cases hlt : c < 256
    · have d1 : decide ((c : Int) < 256) = true := by simpa using (by omega : (c : Int) < 256)
      have HT := Lib.hid (fun w' => tells_new1 o w' c hlt)
      have HTB : Hid (∃ b, tellsB [(c : Int)] o = b) := Lib.hid ⟨_, rfl⟩
      obtain ⟨b, hb⟩ := HTB.out
      have HE := Lib.hid hb
      rw [hb] at HT
      clear hb
      have hcw : IntKind.u8.wrap (c : Int) = (c : Int) := by simp [IntKind.wrap, IntKind.bits, IntKind.signed]; omega
      have q := BB.out _ HB.out
      obtain ⟨⟨p0, p1, p2, p3⟩, _, pl⟩ := q
      cases b with
      | true =>
        go_wp2_with (go_at_call 34; refine (HT.out _).mono ?_; rintro e w2 ⟨rfl, hb2⟩)
        go_ret2
        exact ⟨some [(c : Int)], _, .one c hlt HE.out HN.out, rfl, (ownB1 w2 c).down ((KK.out _ (HB.out.trans (hb2.mono HB.out.size))).size), (KK.out _ ((HB.out.trans (hb2.mono HB.out.size)).alloc (HB.out.trans (hb2.mono HB.out.size)).size _))⟩
      | false =>
        go_wp2_with (go_at_call 34; refine (HT.out _).mono ?_; rintro e w2 ⟨rfl, hb2⟩)
        exact ⟨⟨c + 1, by omega, by go_num, Lib.hid fun d hd => by
          rcases Nat.lt_or_ge d c with h | h
          · exact HN.out d h
          · rw [show d = c by omega]; exact HE.out, Lib.hid (HB.out.trans (hb2.mono HB.out.size))⟩, by simp [RowKit.intOf]; omega⟩
    · have hc' : c = 256 := by omega
      have d1 : decide ((c : Int) < 256) = false := by simp [hc']
      have N1 : Hid (no1 o) := Lib.hid (by rw [hc'] at HN; exact HN.out)
      clear HN hlt hc hc'
      have hmark := True.intro
      go_wp2_with fail
      go_loopw [5] (fun x wr => ∃ c : Nat, 128 ≤ c ∧ c ≤ 176 ∧ x = .int .i64 c ∧ Hid (no2 o c) ∧ Hid (Below w1.heap.size w1 wr)) (fun x _ => 176 - (RowKit.intOf x).toNat)
      case atStart => exact ⟨128, by omega, by omega, rfl, Lib.hid fun c h1 h2 => by omega, HB⟩
      case round =>
        clear HB
        obtain ⟨k, hk0, hk, rfl, N2, HB⟩ := hrel
        by_cases hlt : k < 176
        · have d2 : decide ((k : Int) < 176) = true := by simpa using (by omega : (k : Int) < 176)
          have hcw : IntKind.u8.wrap (k : Int) = (k : Int) := by simp [IntKind.wrap, IntKind.bits, IntKind.signed]; omega
          go_wp2_with fail
          go_loopw [6] (fun x wr => ∃ n : Nat, n ≤ 256 ∧ x = .int .i64 n ∧ Hid (∀ m : Nat, m < n → tellsB [(k : Int), (m : Int)] o = false) ∧ Hid (Below w1.heap.size w1 wr)) (fun x _ => 256 - (RowKit.intOf x).toNat)
          case atStart => exact ⟨0, by omega, rfl, Lib.hid fun d hd => by omega, HB⟩
          case round =>
            clear HB
            obtain ⟨n, hn, rfl, HN, HB⟩ := hrel
            by_cases hln : n < 256
            · have d3 : decide ((n : Int) < 256) = true := by simpa using (by omega : (n : Int) < 256)
              have HT := Lib.hid (fun w' => tells_new2 o w' k n (by omega) hln)
              have HTB : Hid (∃ b, tellsB [(k : Int), (n : Int)] o = b) := Lib.hid ⟨_, rfl⟩
              obtain ⟨b, hb⟩ := HTB.out
              have HE := Lib.hid hb
              rw [hb] at HT
              clear hb HTB
              have hnw : IntKind.u8.wrap (n : Int) = (n : Int) := by simp [IntKind.wrap, IntKind.bits, IntKind.signed]; omega
              have q := BB.out _ HB.out
              obtain ⟨⟨p0, p1, p2, p3⟩, _, pl⟩ := q
              cases b with
              | true =>
                go_wp2_with (go_at_call 34; refine (HT.out _).mono ?_; rintro e w2 ⟨rfl, hb2⟩)
                go_ret2
                exact ⟨some [(k : Int), (n : Int)], _, .two N1.out k n hk0 hlt hln HE.out N2.out HN.out, rfl, (ownB2 w2 k n).down ((KK.out _ (HB.out.trans (hb2.mono HB.out.size))).size), (KK.out _ ((HB.out.trans (hb2.mono HB.out.size)).alloc (HB.out.trans (hb2.mono HB.out.size)).size _))⟩
              | false =>
                go_wp2_with (go_at_call 34; refine (HT.out _).mono ?_; rintro e w2 ⟨rfl, hb2⟩)
                exact ⟨⟨n + 1, by omega, by go_num, Lib.hid fun d hd => by
                  rcases Nat.lt_or_ge d n with h | h
                  · exact HN.out d h
                  · rw [show d = n by omega]; exact HE.out, Lib.hid (HB.out.trans (hb2.mono HB.out.size))⟩, by simp [RowKit.intOf]; omega⟩
            · have hn' : n = 256 := by omega
              have d3 : decide ((n : Int) < 256) = false := by simp [hn']
              have N3 : Hid (∀ m : Nat, m < 256 → tellsB [(k : Int), (m : Int)] o = false) := Lib.hid (by rw [hn'] at HN; exact HN.out)
              clear HN hln hn hn'
              go_wp2_with fail
              exact ⟨⟨k + 1, by omega, by omega, by go_num, Lib.hid fun c h1 h2 m hm => by
                rcases Nat.lt_or_ge c k with h | h
                · exact N2.out c h1 h m hm
                · rw [show c = k by omega]; exact N3.out m hm, HB⟩, by simp [RowKit.intOf]; omega⟩
        · have hk' : k = 176 := by omega
          have d2 : decide ((k : Int) < 176) = false := by simp [hk']
          have N3 : Hid (no2 o 176) := Lib.hid (by rw [hk'] at N2; exact N2.out)
          clear N2 hlt hk hk0 hk'
          go_wp2_with fail
          go_loopw [7] (fun x wr => ∃ c : Nat, x = .int .i64 c ∧ (c = 132 ∨ (c = 134 ∧ ok3 o 132 = false) ∨ (c = 136 ∧ ok3 o 132 = false ∧ ok3 o 134 = false)) ∧ Hid (Below w1.heap.size w1 wr)) (fun x _ => 140 - (RowKit.intOf x).toNat)
          case atStart => exact ⟨132, rfl, .inl rfl, HB⟩
          case round =>
            clear HB
            obtain ⟨c, rfl, hc, HB⟩ := hrel
            by_cases hcc : c = 136
            · have H3 : Hid (ok3 o 132 = false ∧ ok3 o 134 = false) := Lib.hid (by
                rcases hc with h | h | h
                · omega
                · omega
                · exact h.2)
              have d4 : decide ((c : Int) ≤ 134) = false := by simp [hcc]
              clear hc hcc
              go_wp2_with fail
              go_ret2
              exact ⟨none, _, .none N1.out N3.out H3.out.1 H3.out.2, rfl, World.ownsRow_nil _ _ _ _, KK.out _ HB.out⟩
            · have hc2 : c = 132 ∨ c = 134 := by
                rcases hc with h | h | h
                · exact .inl h
                · exact .inr h.1
                · omega
              have H32 : Hid (c = 134 → ok3 o 132 = false) := Lib.hid (fun h => by
                rcases hc with h' | h' | h'
                · omega
                · exact h'.2
                · omega)
              clear hc hcc
              have d4 : decide ((c : Int) ≤ 134) = true := by rcases hc2 with rfl | rfl <;> simp
              have hcw : IntKind.u8.wrap (c : Int) = (c : Int) := by rcases hc2 with rfl | rfl <;> rfl
              have hle : c ≤ 134 := by rcases hc2 with rfl | rfl <;> omega
              have hc255 : c < 256 := by rcases hc2 with rfl | rfl <;> omega
              have HC2 := Lib.hid hc2
              clear hc2
              have q := BB.out _ HB.out
              obtain ⟨⟨p0, p1, p2, p3⟩, _, pl⟩ := q
              by_cases r1 : 0 ≤ o.m
              · by_cases r2 : o.m < 256
                · by_cases r3 : 0 ≤ o.n
                  · by_cases r4 : o.n < 256
                    · have HT := Lib.hid (fun w' => tells_new3 o w' c o.m o.n (by omega) ⟨r1, r2⟩ ⟨r3, r4⟩)
                      have HTB : Hid (∃ b, tellsB [(c : Int), o.m, o.n] o = b) := Lib.hid ⟨_, rfl⟩
                      obtain ⟨b, hb⟩ := HTB.out
                      have HE : Hid (ok3 o c = b) := Lib.hid (by unfold ok3; rw [hb, decide_eq_true (⟨r1, r2, r3, r4⟩ : 0 ≤ o.m ∧ o.m < 256 ∧ 0 ≤ o.n ∧ o.n < 256)]; cases b <;> rfl)
                      rw [hb] at HT
                      clear hb HTB
                      have hmw : IntKind.u8.wrap o.m = o.m := by simp [IntKind.wrap, IntKind.bits, IntKind.signed]; omega
                      have hnw : IntKind.u8.wrap o.n = o.n := by simp [IntKind.wrap, IntKind.bits, IntKind.signed]; omega
                      cases b with
                      | true =>
                        go_wp2_with (go_at_call 34; refine (HT.out _).mono ?_; rintro e w2 ⟨rfl, hb2⟩; have q := BB.out _ (HB.out.trans (hb2.mono HB.out.size)); obtain ⟨⟨x0, x1, x2, x3⟩, _, xl⟩ := q)
                        go_ret2
                        exact ⟨some [(c : Int), o.m, o.n], _, .three N1.out N3.out c HC2.out HE.out H32.out, rfl, (ownB3 w2 c o.m o.n).down ((KK.out _ (HB.out.trans (hb2.mono HB.out.size))).size), (KK.out _ ((HB.out.trans (hb2.mono HB.out.size)).alloc (HB.out.trans (hb2.mono HB.out.size)).size _))⟩
                      | false =>
                        go_wp2_with (go_at_call 34; refine (HT.out _).mono ?_; rintro e w2 ⟨rfl, hb2⟩)
                        exact ⟨⟨c + 2, by go_num, ok3_next HC2.out HE.out H32.out, Lib.hid (HB.out.trans (hb2.mono HB.out.size))⟩, by simp [RowKit.intOf]; omega⟩
                    · have HE : Hid (ok3 o c = false) := Lib.hid (by unfold ok3; rw [decide_eq_false (fun h => r4 h.2.2.2), Bool.false_and])
                      have f4 : decide (o.n < 256) = false := by simpa using r4
                      go_wp2_with fail
                      exact ⟨⟨c + 2, by go_num, ok3_next HC2.out HE.out H32.out, HB⟩, by simp [RowKit.intOf]; omega⟩
                  · have HE : Hid (ok3 o c = false) := Lib.hid (by unfold ok3; rw [decide_eq_false (fun h => r3 h.2.2.1), Bool.false_and])
                    have f3 : decide (0 ≤ o.n) = false := by simpa using r3
                    go_wp2_with fail
                    exact ⟨⟨c + 2, by go_num, ok3_next HC2.out HE.out H32.out, HB⟩, by simp [RowKit.intOf]; omega⟩
                · have HE : Hid (ok3 o c = false) := Lib.hid (by unfold ok3; rw [decide_eq_false (fun h => r2 h.2.1), Bool.false_and])
                  have f2 : decide (o.m < 256) = false := by simpa using r2
                  go_wp2_with fail
                  exact ⟨⟨c + 2, by go_num, ok3_next HC2.out HE.out H32.out, HB⟩, by simp [RowKit.intOf]; omega⟩
              · have HE : Hid (ok3 o c = false) := Lib.hid (by unfold ok3; rw [decide_eq_false (fun h => r1 h.1), Bool.false_and])
                have f1 : decide (0 ≤ o.m) = false := by simpa using r1
                go_wp2_with fail
                exact ⟨⟨c + 2, by go_num, ok3_next HC2.out HE.out H32.out, HB⟩, by simp [RowKit.intOf]; omega⟩
end Go.Proofs.YtmcikjihkgplaaaDoor

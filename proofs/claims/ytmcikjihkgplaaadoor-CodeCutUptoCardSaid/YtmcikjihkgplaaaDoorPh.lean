/- Only the guessed bytes can tell a thing to do: plain facts. -/
import Derived.Test.YtmcikjihkgplaaaDoorPg
import Derived.Test.YtmcikjihkgplaaaDoorPc
import Derived.Test.YtmcikjihkgplaaaDoorKJm
namespace Go.Proofs.YtmcikjihkgplaaaDoor
set_option maxRecDepth 1000000
open Go.RowKit

theorem tells_len {bs : List Int} {o : OpT} (h : tellsB bs o = true) : longN (byt bs 0) = bs.length ∧ o.k = (tellS (byt bs 0) (byt bs 1) (byt bs 2)).k ∧ o.n = (tellS (byt bs 0) (byt bs 1) (byt bs 2)).n ∧ o.m = (tellS (byt bs 0) (byt bs 1) (byt bs 2)).m := by
  unfold tellsB at h
  rw [decide_eq_true_eq] at h
  obtain ⟨h1, h2, h3, h4, h5⟩ := h
  have h0 : atO bs 0 = tellO (byt bs 0) (byt bs 1) (byt bs 2) := by unfold atO; rw [if_pos h1]; rfl
  rw [h0] at h2 h3 h4 h5
  exact ⟨h2, h3.symm, h4.symm, h5.symm⟩
theorem tells_one {c : Nat} {o : OpT} (h : tellsB [(c : Int)] o = true) : longN (c : Int) = 1 ∧ o.k = (shortO c).k ∧ o.n = (shortO c).n ∧ o.m = (shortO c).m := by
  obtain ⟨h1, h2⟩ := tells_len h
  have e : longN (c : Int) = 1 := h1
  have e2 : tellS (byt [(c : Int)] 0) (byt [(c : Int)] 1) (byt [(c : Int)] 2) = shortO c := by
    show tellS (c : Int) 0 0 = _
    unfold tellS; rw [if_pos e]
  rw [e2] at h2
  exact ⟨e, h2⟩
theorem tells_two {c n : Nat} {o : OpT} (h : tellsB [(c : Int), (n : Int)] o = true) : longN (c : Int) = 2 ∧ o.k = (wideO c n 0).k ∧ o.n = (wideO c n 0).n ∧ o.m = (wideO c n 0).m := by
  obtain ⟨h1, h2⟩ := tells_len h
  have e : longN (c : Int) = 2 := h1
  have e2 : tellS (byt [(c : Int), (n : Int)] 0) (byt [(c : Int), (n : Int)] 1) (byt [(c : Int), (n : Int)] 2) = wideO c n 0 := by
    show tellS (c : Int) n 0 = _
    unfold tellS; rw [if_neg (by omega), if_pos e]
  rw [e2] at h2
  exact ⟨e, h2⟩
theorem tells_three {c n m : Int} {o : OpT} (h : tellsB [c, n, m] o = true) : longN c = 3 ∧ o.k = (wideO c n m).k := by
  obtain ⟨h1, h2, _⟩ := tells_len h
  have e : longN c = 3 := h1
  have e2 : tellS (byt [c, n, m] 0) (byt [c, n, m] 1) (byt [c, n, m] 2) = wideO c n m := by
    show tellS c n m = _
    unfold tellS; rw [if_neg (by omega), if_neg (by omega)]
  rw [e2] at h2
  exact ⟨e, h2⟩
theorem only1 {o : OpT} (hk : o.k ≠ 0) {c : Nat} (hc : c < 256) (h : tellsB [(c : Int)] o = true) : G1 o.k o.n o.m = c := by
  obtain ⟨h1, h2, h3, h4⟩ := tells_one h
  rw [h2] at hk
  rw [h2, h3, h4]
  exact g1_all c hc h1 hk
theorem only2 {o : OpT} (hk : o.k ≠ 0) {c n : Nat} (hc : 128 ≤ c) (hc2 : c < 176) (hn : n < 256) (h : tellsB [(c : Int), (n : Int)] o = true) : G2 o.k o.n o.m = c ∧ G2' o.k o.n o.m = n := by
  obtain ⟨h1, h2, h3, h4⟩ := tells_two h
  obtain ⟨d, rfl⟩ : ∃ d, c = 128 + d := ⟨c - 128, by omega⟩
  rw [h2] at hk
  rw [h2, h3, h4]
  exact g2_all d (by omega) n hn h1 hk
theorem u8_small {n : Int} (h0 : 0 ≤ n) (h1 : n < 256) : IntKind.u8.wrap n = n := by simp [IntKind.wrap, IntKind.bits, IntKind.signed]; omega
theorem ok3_rng {o : OpT} {c : Nat} (h : ok3 o c = true) : 0 ≤ o.m ∧ o.m < 256 ∧ 0 ≤ o.n ∧ o.n < 256 ∧ tellsB [(c : Int), o.m, o.n] o = true := by
  unfold ok3 at h
  rw [Bool.and_eq_true, decide_eq_true_eq] at h
  exact ⟨h.1.1, h.1.2.1, h.1.2.2.1, h.1.2.2.2, h.2⟩
theorem only3 {o : OpT} {c : Nat} (hc : c = 132 ∨ c = 134) (h : ok3 o c = true) : G3 o.k = c ∧ IntKind.u8.wrap o.m = o.m ∧ IntKind.u8.wrap o.n = o.n := by
  obtain ⟨h1, h2, h3, h4, h5⟩ := ok3_rng h
  refine ⟨?_, u8_small h1 h2, u8_small h3 h4⟩
  obtain ⟨_, h6⟩ := tells_three h5
  rw [h6]
  rcases hc with rfl | rfl <;> rfl
theorem tells_kind {bs : List Int} {o : OpT} (hb : Bytes bs) (h : tellsB bs o = true) : 0 ≤ o.k ∧ o.k ≤ 26 := by
  unfold tellsB at h
  rw [decide_eq_true_eq] at h
  have := atO_lim hb h.1
  unfold Lim at this
  omega
theorem one_kind {o : OpT} (hk : o.k < 0 ∨ 26 < o.k) : OneIs o none := by
  have key : ∀ bs : List Int, Bytes bs → tellsB bs o = false := fun bs hb => by
    cases h : tellsB bs o with
    | false => rfl
    | true => have := tells_kind hb h; omega
  have k3 : ∀ c : Nat, c < 256 → ok3 o c = false := fun c hc => by
    cases h : ok3 o c with
    | false => rfl
    | true =>
      obtain ⟨h1, h2, h3, h4, h5⟩ := ok3_rng h
      rw [key _ (fun x hx => by simp at hx; rcases hx with rfl | rfl | rfl <;> omega)] at h5
      cases h5
  exact .none (fun d hd => key _ fun x hx => by simp at hx; omega) (fun c h1 h2 n h3 => key _ fun x hx => by simp at hx; rcases hx with rfl | rfl <;> omega) (k3 132 (by omega)) (k3 134 (by omega))
theorem u8_rng (n : Int) : 0 ≤ IntKind.u8.wrap n ∧ IntKind.u8.wrap n < 256 := by simp [IntKind.wrap, IntKind.bits, IntKind.signed]; omega
/-- What the three tries say together: bytes that tell it, or that there are none. -/
theorem one_of1 {o : OpT} (hk : o.k ≠ 0) (h : tellsB [G1 o.k o.n o.m] o = true) : OneIs o (some [G1 o.k o.n o.m]) := by
  obtain ⟨h0, h1⟩ := u8_rng (IntKind.i64.wrap ((headAt o.k.toNat).1 + placeO o.k o.n o.m))
  change 0 ≤ G1 o.k o.n o.m at h0
  change G1 o.k o.n o.m < 256 at h1
  obtain ⟨c, hc⟩ := Int.eq_ofNat_of_zero_le h0
  rw [hc] at h ⊢
  refine .one c (by omega) h fun d hd => ?_
  cases e : tellsB [(d : Int)] o with
  | false => rfl
  | true => have := only1 hk (by omega) e; omega
theorem no1_of {o : OpT} (hk : o.k ≠ 0) (h : tellsB [G1 o.k o.n o.m] o = false) : no1 o := fun d hd => by
  cases e : tellsB [(d : Int)] o with
  | false => rfl
  | true =>
    have := only1 hk hd e
    rw [this, e] at h
    cases h
theorem two_rng (k n m : Int) : 0 ≤ G2 k n m ∧ G2 k n m < 256 ∧ 0 ≤ G2' k n m ∧ G2' k n m < 256 := ⟨(u8_rng _).1, (u8_rng _).2, (u8_rng _).1, (u8_rng _).2⟩
theorem one_of2 {o : OpT} (hk : o.k ≠ 0) (h1 : no1 o) (h : tellsB [G2 o.k o.n o.m, G2' o.k o.n o.m] o = true) : OneIs o (some [G2 o.k o.n o.m, G2' o.k o.n o.m]) := by
  obtain ⟨a0, a1, b0, b1⟩ := two_rng o.k o.n o.m
  obtain ⟨c, hc⟩ := Int.eq_ofNat_of_zero_le a0
  obtain ⟨n, hn⟩ := Int.eq_ofNat_of_zero_le b0
  rw [hc, hn] at h
  have hl := (tells_two h).1
  have hc2 : 128 ≤ c ∧ c < 176 := by
    unfold longN at hl
    split at hl
    · cases hl
    · split at hl
      · omega
      · cases hl
  have key : ∀ (d m : Nat), 128 ≤ d → d < 176 → m < 256 → tellsB [(d : Int), (m : Int)] o = true → d = c ∧ m = n := fun d m hd hd2 hm e => by
    have := only2 hk hd hd2 hm e
    omega
  rw [hc, hn]
  refine .two h1 c n hc2.1 hc2.2 (by omega) h (fun d hd hd2 m hm => ?_) fun m hm => ?_
  · cases e : tellsB [(d : Int), (m : Int)] o with
    | false => rfl
    | true => have := key d m hd (by omega) hm e; omega
  · cases e : tellsB [(c : Int), (m : Int)] o with
    | false => rfl
    | true => have := key c m hc2.1 hc2.2 (by omega) e; omega
theorem no2_of {o : OpT} (hk : o.k ≠ 0) (h : tellsB [G2 o.k o.n o.m, G2' o.k o.n o.m] o = false) : no2 o 176 := fun d hd hd2 m hm => by
  cases e : tellsB [(d : Int), (m : Int)] o with
  | false => rfl
  | true =>
    have := only2 hk hd hd2 hm e
    rw [this.1, this.2, e] at h
    cases h
theorem one_of3 {o : OpT} (h1 : no1 o) (h2 : no2 o 176) (h : tellsB [G3 o.k, IntKind.u8.wrap o.m, IntKind.u8.wrap o.n] o = true) : OneIs o (some [G3 o.k, IntKind.u8.wrap o.m, IntKind.u8.wrap o.n]) := by
  obtain ⟨a1, a2, a3, a4⟩ := tells_len h
  have hl : longN (G3 o.k) = 3 := a1
  have h3 := long_three hl
  have e2 : tellS (byt [G3 o.k, IntKind.u8.wrap o.m, IntKind.u8.wrap o.n] 0) (byt [G3 o.k, IntKind.u8.wrap o.m, IntKind.u8.wrap o.n] 1) (byt [G3 o.k, IntKind.u8.wrap o.m, IntKind.u8.wrap o.n] 2) = wideO (G3 o.k) (IntKind.u8.wrap o.m) (IntKind.u8.wrap o.n) := by
    show tellS (G3 o.k) _ _ = _
    unfold tellS; rw [if_neg (by omega), if_neg (by omega)]; rfl
  rw [e2] at a2 a3 a4
  have em : o.m = IntKind.u8.wrap o.m := by rcases h3 with e | e <;> rw [e] at a4 <;> exact a4
  have en : o.n = IntKind.u8.wrap o.n := by rcases h3 with e | e <;> rw [e] at a3 <;> exact a3
  rw [← em, ← en] at h ⊢
  have r1 := u8_rng o.m
  have r2 := u8_rng o.n
  rw [← em] at r1
  rw [← en] at r2
  have ok : ∀ c : Nat, G3 o.k = (c : Int) → ok3 o c = true := fun c hc => by
    unfold ok3
    rw [← hc, h, Bool.and_true, decide_eq_true_eq]
    exact ⟨r1.1, r1.2, r2.1, r2.2⟩
  rcases h3 with e | e
  · have := OneIs.three (o := o) h1 h2 132 (.inl rfl) (ok 132 e) (fun h => by omega)
    rw [e]; exact this
  · have := OneIs.three (o := o) h1 h2 134 (.inr rfl) (ok 134 e) (fun _ => by
      cases e2 : ok3 o 132 with
      | false => rfl
      | true => have := (only3 (.inl rfl) e2).1; omega)
    rw [e]; exact this
theorem one_of0 {o : OpT} (h1 : no1 o) (h2 : no2 o 176) (h : tellsB [G3 o.k, IntKind.u8.wrap o.m, IntKind.u8.wrap o.n] o = false) : OneIs o none := by
  have no : ∀ c : Nat, c = 132 ∨ c = 134 → ok3 o c = false := fun c hc => by
    cases e : ok3 o c with
    | false => rfl
    | true =>
      obtain ⟨e1, e2, e3⟩ := only3 hc e
      rw [e1, e2, e3, (ok3_rng e).2.2.2.2] at h
      cases h
  exact .none h1 h2 (no 132 (.inl rfl)) (no 134 (.inr rfl))
end Go.Proofs.YtmcikjihkgplaaaDoor

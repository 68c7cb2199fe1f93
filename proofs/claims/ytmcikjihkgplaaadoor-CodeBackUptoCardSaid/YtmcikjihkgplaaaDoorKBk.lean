/- What is read is written in no more bytes, and read again: plain facts. -/
import Derived.Test.YtmcikjihkgplaaaDoorKCh
import Derived.Test.YtmcikjihkgplaaaDoorKBw
namespace Go.Proofs.YtmcikjihkgplaaaDoor
set_option maxRecDepth 1000000
open Go.RowKit

/-- It is told by some bytes. -/
def ToldBy (o : OpT) : Prop := ∃ c n m : Int, (0 ≤ c ∧ c ≤ 255) ∧ (0 ≤ n ∧ n ≤ 255) ∧ (0 ≤ m ∧ m ≤ 255) ∧ o = tellO c n m
theorem atO_told {bs : List Int} (hb : Bytes bs) {a : Int} (h : atE bs a = 0) : ToldBy (atO bs a) := by
  refine ⟨_, _, _, byt_rng hb a.toNat, byt_rng hb (a.toNat + 1), byt_rng hb (a.toNat + 2), ?_⟩
  unfold atO
  rw [if_pos h]
theorem tells_of {b : List Int} {c n m : Int} (hc : byt b 0 = c) (hl : (b.length : Int) = longN c) (hn : 2 ≤ longN c → byt b 1 = n) (hm : longN c = 3 → byt b 2 = m) : tellsB b (tellO c n m) = true := by
  have hr := longN_rng c
  have h0 : 0 < b.length := by omega
  have h := at_in (bs := b) (i := 0) h0 (by rw [hc]; simp; omega)
  simp only [Int.natCast_zero, Nat.zero_add] at h
  have h2 : atO b 0 = tellO c n m := by
    rw [h.2, hc]
    exact tell_same hn hm
  unfold tellsB
  rw [decide_eq_true_eq, h2]
  exact ⟨h.1, by rw [hl]; rfl, rfl, rfl, rfl⟩
theorem one_len {o : OpT} (ht : ToldBy o) {r : Option (List Int)} (h : OneIs o r) : ∃ b, r = some b ∧ (b.length : Int) ≤ o.l := by
  obtain ⟨c, n, m, hc, hn, hm, rfl⟩ := ht
  obtain ⟨cn, rfl⟩ := Int.eq_ofNat_of_zero_le hc.1
  obtain ⟨nn, rfl⟩ := Int.eq_ofNat_of_zero_le hn.1
  obtain ⟨mn, rfl⟩ := Int.eq_ofNat_of_zero_le hm.1
  have hr := longN_rng (cn : Int)
  have hl : (tellO (cn : Int) (nn : Int) (mn : Int)).l = longN (cn : Int) := rfl
  have n1 : longN (cn : Int) = 1 → ¬ no1 (tellO (cn : Int) (nn : Int) (mn : Int)) := fun e hno => by
    have := tells_of (b := [(cn : Int)]) (c := (cn : Int)) (n := (nn : Int)) (m := (mn : Int)) rfl (by rw [e]; rfl) (by omega) (by omega)
    exact no1_ne hno (by omega) this
  have n2 : longN (cn : Int) = 2 → ¬ no2 (tellO (cn : Int) (nn : Int) (mn : Int)) 176 := fun e hno => by
    have := tells_of (b := [(cn : Int), (nn : Int)]) (c := (cn : Int)) (n := (nn : Int)) (m := (mn : Int)) rfl (by rw [e]; rfl) (fun _ => rfl) (by omega)
    have hcr : 128 ≤ cn ∧ cn < 176 := by
      unfold longN at e
      split at e
      · omega
      · split at e
        · omega
        · omega
    exact no2_ne hno hcr.1 hcr.2 (by omega) this
  have n3 : longN (cn : Int) = 3 → (cn = 132 ∨ cn = 134) ∧ ok3 (tellO (cn : Int) (nn : Int) (mn : Int)) cn = true := fun e => by
    have := tells_of (b := [(cn : Int), (nn : Int), (mn : Int)]) (c := (cn : Int)) (n := (nn : Int)) (m := (mn : Int)) rfl (by rw [e]; rfl) (fun _ => rfl) (fun _ => rfl)
    have hcr : cn = 132 ∨ cn = 134 := by
      unfold longN at e
      split at e
      · omega
      · split at e
        · omega
        · omega
    have hf : (tellO (cn : Int) (nn : Int) (mn : Int)).m = nn ∧ (tellO (cn : Int) (nn : Int) (mn : Int)).n = mn := by
      unfold tellO
      rw [if_neg (by omega), if_neg (by omega)]
      unfold wideO
      rcases hcr with rfl | rfl
      · exact ⟨rfl, rfl⟩
      · exact ⟨rfl, rfl⟩
    refine ⟨hcr, ?_⟩
    unfold ok3
    rw [hf.1, hf.2, this, decide_eq_true (by omega)]
    rfl
  rw [hl]
  cases h with
  | one c h => exact ⟨_, rfl, by simp; omega⟩
  | two h1 c n => exact ⟨_, rfl, by
      rcases hr with e | e | e
      · exact (n1 e h1).elim
      · simp; omega
      · simp; omega⟩
  | three h1 h2 c hc => exact ⟨_, rfl, by
      rcases hr with e | e | e
      · exact (n1 e h1).elim
      · exact (n2 e h2).elim
      · simp; omega⟩
  | none h1 h2 h3 h4 =>
    rcases hr with e | e | e
    · exact (n1 e h1).elim
    · exact (n2 e h2).elim
    · obtain ⟨hc, hk⟩ := n3 e
      rcases hc with rfl | rfl
      · rw [h3] at hk; cases hk
      · rw [h4] at hk; cases hk
theorem OneIs.tells' {o : OpT} {b : List Int} (h : OneIs o (some b)) : tellsB b o = true := by
  cases h with
  | one c h ht => exact ht
  | two h1 c n hc hc2 hn ht => exact ht
  | three h1 h2 c hc ht => unfold ok3 at ht; rw [Bool.and_eq_true] at ht; exact ht.2
/-- Things to do that are the same but for how many bytes they have, and have no more. -/
def Lean1 (p o : OpT) : Prop := p.k = o.k ∧ p.n = o.n ∧ p.m = o.m ∧ p.l ≤ o.l
theorem bytes_back : ∀ {L : List OpT} {r : Option (List Int)}, (∀ o ∈ L, ToldBy o ∧ o.k ≠ 0) → BytesIs L r →
    ∃ c K, r = some c ∧ Ch c 0 K 0 ∧ K.length = L.length ∧ (∀ (i : Nat) (p o : OpT), K[i]? = some p → L[i]? = some o → Lean1 p o) ∧ (c.length : Int) ≤ begAt L L.length ∧ Bytes c
  | [], _, _, .nil => ⟨[], [], rfl, .done, rfl, fun i p o h => by simp at h, by simp [begAt], fun n hn => by cases hn⟩
  | o :: L, _, hL, .bad _ _ h => by
    obtain ⟨h1, h2⟩ := hL o (by simp)
    rcases h with h | h
    · obtain ⟨b, hb, _⟩ := one_len h1 h
      cases hb
    · exact (h2 h).elim
  | o :: L, _, hL, .cons _ b _ r h hk k => by
    obtain ⟨h1, h2⟩ := hL o (by simp)
    obtain ⟨b', hb, hlen⟩ := one_len h1 h
    injection hb with hb
    subst hb
    obtain ⟨c, K, rfl, hc, hKl, hKi, hcl, hcb⟩ := bytes_back (fun x hx => hL x (by simp [hx])) k
    have ht := h.tells'
    unfold tellsB at ht
    rw [decide_eq_true_eq] at ht
    obtain ⟨t1, t2, t3, t4, t5⟩ := ht
    obtain ⟨l1, l2, l3⟩ := h.len
    have hs : Ch b 0 [atO b 0] 0 := by
      have := Ch.step (bs := b) 0 [] 0 (by omega) t1 (by
        rw [Int.natCast_zero, t2]
        simp only [Int.toNat_natCast, Nat.zero_add]
        exact .done)
      simpa using this
    have hcc := ch_append hs rfl hc
    refine ⟨b ++ c, atO b 0 :: K, rfl, hcc, by simp [hKl], fun i p q hp hq => ?_, ?_, fun n hn => ?_⟩
    · cases i with
      | zero =>
        simp at hp hq
        subst hp hq
        exact ⟨t3, t4, t5, by rw [t2]; exact hlen⟩
      | succ i => exact hKi i p q (by simpa using hp) (by simpa using hq)
    · rw [List.length_append, List.length_cons, begAt_cons]
      omega
    · rcases List.mem_append.1 hn with h | h
      · exact l3 n h
      · exact hcb n h
theorem one_same {k n m l l' : Int} {r : Option (List Int)} (h : OneIs ⟨k, n, m, l⟩ r) : OneIs ⟨k, n, m, l'⟩ r := by
  cases h with
  | one c h ht hn => exact @OneIs.one ⟨k, n, m, l'⟩ c h ht hn
  | two h1 c q hc hc2 hn ht h2 h3 => exact @OneIs.two ⟨k, n, m, l'⟩ h1 c q hc hc2 hn ht h2 h3
  | three h1 h2 c hc ht hl => exact @OneIs.three ⟨k, n, m, l'⟩ h1 h2 c hc ht hl
  | none h1 h2 h3 h4 => exact @OneIs.none ⟨k, n, m, l'⟩ h1 h2 h3 h4
theorem bytes_same : ∀ {L K : List OpT} {r : Option (List Int)}, K.length = L.length → (∀ (i : Nat) (p o : OpT), K[i]? = some p → L[i]? = some o → p.k = o.k ∧ p.n = o.n ∧ p.m = o.m) → BytesIs L r → BytesIs K r
  | [], [], _, _, _, .nil => .nil
  | o :: L, p :: K, _, hl, h, hr => by
    obtain ⟨h1, h2, h3⟩ := h 0 p o rfl rfl
    obtain ⟨k, n, m, l⟩ := o
    obtain ⟨k', n', m', l'⟩ := p
    simp only at h1 h2 h3
    subst h1 h2 h3
    have ih := fun {r : Option (List Int)} (x : BytesIs L r) => bytes_same (L := L) (K := K) (by simpa using hl) (fun i p o hp ho => h (i + 1) p o (by simpa using hp) (by simpa using ho)) x
    cases hr with
    | bad _ _ hb => exact .bad _ _ (hb.imp one_same id)
    | cons _ b _ r h1 hk h2 => exact .cons _ b _ r (one_same h1) hk (ih h2)
theorem bytes_kinds : ∀ {L : List OpT} {c : List Int}, BytesIs L (some c) → ∀ o ∈ L, o.k ≠ 0
  | [], _, _, o, ho => by cases ho
  | x :: L, c, h, o, ho => by
    generalize hr : some c = r at h
    cases h with
    | bad _ _ h => cases hr
    | cons _ b _ r' h hk h2 =>
      cases r' with
      | none => cases hr
      | some c' =>
        rcases List.mem_cons.1 ho with rfl | ho
        · exact hk
        · exact bytes_kinds h2 o ho
end Go.Proofs.YtmcikjihkgplaaaDoor

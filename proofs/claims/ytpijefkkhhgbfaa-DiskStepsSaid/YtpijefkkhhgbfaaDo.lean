/- What the laws' own function done does: what it tells of something done, and the disk that it leaves. No condition but those that each statement names. -/
import Derived.Test.YtpijefkkhhgbfaaMem
namespace Go.Proofs.Ytpijefkkhhgbfaa
open Go.ChangeShapes Go.WideShapes Go.ChangeAt Go.RowKit

/-- Something done: its number is that of a sector. -/
def okI (n : Nat) (f : Int) : Bool := decide (0 ≤ f ∧ f < n)
/-- The disk behind something done. -/
def nextD (n : Nat) (D : Nat → Int) (k f : Int) (bs : List Int) : Nat → Int :=
  if okI n f = true then (if k = 1 then D else if k = 2 then (if bs.length ≤ 64 then put D f.toNat bs else D) else put D f.toNat []) else D
/-- The bytes that are told of it. -/
def toldB (n : Nat) (D : Nat → Int) (k f : Int) : List Int := if okI n f = true ∧ k = 1 then sec D f.toNat else []
/-- The error that is told of it. -/
def toldE (n : Nat) (k f : Int) (bs : List Int) : Int := if okI n f = true then (if k = 2 ∧ 64 < bs.length then 2 else 0) else 4
def nextR (r : Nat) (E k : Int) : Nat := if E = 0 ∧ k = 1 then r + 1 else r
def nextC (c : Nat) (E k : Int) : Nat := if E = 0 ∧ k = 2 then c + 1 else c

/-- What done leaves. -/
def DonePost (m x n r c : Nat) (D : Nat → Int) (k f : Int) (bs : List Int) (w : World) (e : Ending) (w' : World) : Prop :=
  ∃ v, e = .returned (.tuple #[v, .int .i64 (toldE n k f bs)]) ∧ w'.ownsRow w.heap.size 5 1 v (toldB n D k f).length ((toldB n D k f).map (Value.int .u8)) ∧
    DiskAt w' m x n (nextR r (toldE n k f bs) k) (nextC c (toldE n k f bs) k) (nextD n D k f bs) ∧ Only (dk m x) w w'

theorem one_ints2 (w : World) (o : Obj) (i : Int) : Ints (fun b => w.heap.size ≤ b) ((w.alloc o).alloc (.cells #[.int .i64 i] 3)) (.slice (some ⟨w.heap.size + 1, 0, none⟩) 1 1) [i] := by
  have h := one_ints (N := fun b => w.heap.size ≤ b) (w.alloc o) i (by simp)
  rwa [show (w.alloc o).heap.size = w.heap.size + 1 by simp] at h
theorem one_in {n : Nat} {i : Nat} (h : i < n) : inB n [(i : Int)] = true := by simp [inB, h]
theorem one_out {n : Nat} {f : Int} (h : ¬ (0 ≤ f ∧ f < n)) : inB n [f] = false := by rw [inB_one]; simpa using h
theorem clr_one (D : Nat → Int) (i : Nat) : clr D [(i : Int)] = put D i [] := rfl

section
variable {n : Nat} {D : Nat → Int} {k f : Int} {bs : List Int} {r c : Nat}
theorem told_out (h : ¬ (0 ≤ f ∧ f < n)) : toldE n k f bs = 4 ∧ toldB n D k f = [] ∧ nextD n D k f bs = D ∧ nextR r (4 : Int) k = r ∧ nextC c (4 : Int) k = c := by
  simp [toldE, toldB, nextD, nextR, nextC, okI, h]
theorem told_read {i : Nat} (h : i < n) : toldE n 1 (i : Int) bs = 0 ∧ toldB n D 1 (i : Int) = sec D i ∧ nextD n D 1 (i : Int) bs = D ∧ nextR r (0 : Int) 1 = r + 1 ∧ nextC c (0 : Int) 1 = c := by
  simp [toldE, toldB, nextD, nextR, nextC, okI, h]
theorem told_write {i : Nat} (h : i < n) (hl : bs.length ≤ 64) : toldE n 2 (i : Int) bs = 0 ∧ toldB n D 2 (i : Int) = [] ∧ nextD n D 2 (i : Int) bs = put D i bs ∧ nextR r (0 : Int) 2 = r ∧ nextC c (0 : Int) 2 = c + 1 := by
  have hl' : ¬ 64 < bs.length := by omega
  simp [toldE, toldB, nextD, nextR, nextC, okI, h, hl]
theorem told_long {i : Nat} (h : i < n) (hl : 64 < bs.length) : toldE n 2 (i : Int) bs = 2 ∧ toldB n D 2 (i : Int) = [] ∧ nextD n D 2 (i : Int) bs = D ∧ nextR r (2 : Int) 2 = r ∧ nextC c (2 : Int) 2 = c := by
  have hl' : ¬ bs.length ≤ 64 := by omega
  simp [toldE, toldB, nextD, nextR, nextC, okI, h, hl, hl']
theorem told_clear {i : Nat} (h : i < n) (h1 : k ≠ 1) (h2 : k ≠ 2) : toldE n k (i : Int) bs = 0 ∧ toldB n D k (i : Int) = [] ∧ nextD n D k (i : Int) bs = put D i [] ∧ nextR r (0 : Int) k = r ∧ nextC c (0 : Int) k = c := by
  simp [toldE, toldB, nextD, nextR, nextC, okI, h, h1, h2]
end

theorem done_shut {m x n r c : Nat} {D : Nat → Int} {k f : Int} {bs : List Int} {w w' : World} {e : Ending} {v : Value} {E : Int} {B : List Int} {R C : Nat} {D' : Nat → Int}
    (ht : toldE n k f bs = E ∧ toldB n D k f = B ∧ nextD n D k f bs = D' ∧ nextR r E k = R ∧ nextC c E k = C) (he : e = .returned (.tuple #[v, .int .i64 E]))
    (hown : w'.ownsRow w.heap.size 5 1 v B.length (B.map (Value.int .u8))) (hd : DiskAt w' m x n R C D') (ho : Only (dk m x) w w') : DonePost m x n r c D k f bs w e w' := by
  obtain ⟨h1, h2, h3, h4, h5⟩ := ht
  refine ⟨v, by rw [h1]; exact he, by rw [h2]; exact hown, by rw [h1, h3, h4, h5]; exact hd, ho⟩
theorem kind_out {m x : Nat} {w w' : World} (h : Below w.heap.size w w') : Only (dk m x) w w' := Only.of_below h

set_option maxHeartbeats 1000000 in
theorem done_any (m x n r c : Nat) (D : Nat → Int) (k f : Int) (bv : Value) (bs : List Int) {N : Nat → Prop} (w : World) (h : DiskAt w m x n r c D) (hr : r ≤ 1000000) (hc : c ≤ 1000000) (hb : Bts N w bv bs) (hy : Bytes bs) (hm : bs.length ≤ maxLen) :
    Calls Try.prog 11 #[.pointer (some ⟨m, 0, none⟩), .agg #[.int .i64 k, .int .i64 f, bv]] w (DonePost m x n r c D k f bs w) := by
  have HB := Lib.hid hb
  obtain ⟨ba, bc, rfl, _⟩ := hb.form
  unfold maxLen at hm
  clear hb
  have b1 : ∀ o, Below w.heap.size w (w.alloc o) := fun o => (Below.refl _ _).alloc (Nat.le_refl _) o
  have HD : Hid (∀ w1, Below w.heap.size w w1 → DiskAt w1 m x n r c D) := fun w1 b => h.fresh b
  have HB1 : Hid (∀ w1, Below w.heap.size w w1 → Bts N w1 (.slice ba bs.length bc) bs) := fun w1 b => HB.out.only (Only.of_below (F := fun _ => False) b) (fun _ _ h => h)
  have OW : Hid (∀ w1 : World, w1.ownsRow w.heap.size 5 1 (.slice none 0 0) 0 []) := fun w1 => World.ownsRow_nil _ _ _ _
  have NI : Hid (∀ w1 (i : Int), Below w.heap.size w w1 → Ints (fun b => b = w1.heap.size) (w1.alloc (.cells #[.int .i64 i] 3)) (.slice (some ⟨w1.heap.size, 0, none⟩) 1 1) [i]) := fun w1 i _ => one_ints w1 i rfl
  have hml := h.mlt
  have hxl := h.xlt
  have B1 := Lib.hid b1
  clear h b1
  by_cases hi : 0 ≤ f ∧ f < n
  · obtain ⟨i, rfl⟩ := Int.eq_ofNat_of_zero_le hi.1
    have hin : i < n := by omega
    by_cases h1 : k = 1
    · subst h1
      go_enter Try.func11, Try.ntmps11
      go_wp2_with fail
      refine (read_yes m x n r c D i _ (HD.out _ (B1.out _)) hin (by omega)).mono ?_
      rintro e w2 ⟨g, cp, rfl, hown, d2, o2⟩
      have P : Hid (DonePost m x n r c D 1 i bs w (.returned (.tuple #[.slice (some ⟨g, 0, none⟩) 64 cp, .int .i64 0])) w2) :=
        done_shut (told_read hin) rfl (by rw [sec_len]; exact own_lower hown (by simp)) d2 (((Only.refl _ _).alloc _).trans (o2.mono (fun _ _ h => .inl h)))
      clear hown d2 o2
      go_wp2_with fail
      go_ret2
      exact P.out
    · have h1' : (k == 1) = false := by simpa using h1
      by_cases h2 : k = 2
      · subst h2
        clear h1 h1'
        by_cases hl : bs.length ≤ 64
        · go_enter Try.func11, Try.ntmps11
          go_wp2_with fail
          refine (write_yes m x n r c D i _ bs _ (HD.out _ (B1.out _)) hin (by omega) (HB1.out _ (B1.out _)) hy hl).mono ?_
          rintro e w2 ⟨rfl, d2, o2⟩
          have P : Hid (DonePost m x n r c D 2 i bs w (.returned (.tuple #[.slice none 0 0, .int .i64 0])) w2) :=
            done_shut (told_write hin hl) rfl (OW.out _) d2 (((Only.refl _ _).alloc _).trans o2)
          clear d2 o2
          go_wp2_with fail
          go_ret2
          exact P.out
        · go_enter Try.func11, Try.ntmps11
          go_wp2_with fail
          refine (write_long m x n r c D i _ bs _ (HD.out _ (B1.out _)) hin (HB1.out _ (B1.out _)) (by omega) (by omega)).mono ?_
          rintro e w2 ⟨rfl, b2⟩
          have b3 : Below w.heap.size w w2 := (B1.out _).trans (b2.mono (by simp))
          have P : Hid (DonePost m x n r c D 2 i bs w (.returned (.tuple #[.slice none 0 0, .int .i64 2])) w2) :=
            done_shut (told_long hin (by omega)) rfl (OW.out _) (HD.out _ b3) (kind_out b3)
          clear b2 b3
          go_wp2_with fail
          go_ret2
          exact P.out
      · have h2' : (k == 2) = false := by simpa using h2
        go_enter Try.func11, Try.ntmps11
        go_wp2_with fail
        refine (clear_yes (N := fun b => w.heap.size ≤ b) m x n r c D _ [(i : Int)] _ (HD.out _ ?h1) ?h2 (fun b h1 h2 => by rcases h2 with h2 | h2 <;> omega) (by simp) (one_in hin)).mono ?_
        case h1 => exact ((Below.refl _ _).alloc (Nat.le_refl _) _).alloc (by simp) _
        case h2 => exact one_ints2 w _ _
        rintro e w2 ⟨rfl, d2, o2⟩
        rw [clr_one] at d2
        have P : Hid (DonePost m x n r c D k i bs w (.returned (.tuple #[.slice none 0 0, .int .i64 0])) w2) :=
          done_shut (told_clear hin h1 h2) rfl (OW.out _) d2 ((((Only.refl _ _).alloc _).alloc _).trans o2)
        clear d2 o2
        go_wp2_with fail
        go_ret2
        exact P.out
  · have PO : Hid (∀ w2, Below w.heap.size w w2 → DonePost m x n r c D k f bs w (.returned (.tuple #[.slice none 0 0, .int .i64 4])) w2) := fun w2 b2 =>
      done_shut (told_out hi) rfl (OW.out _) (HD.out _ b2) (kind_out b2)
    have HI := Lib.hid hi
    clear hi
    by_cases h1 : k = 1
    · subst h1
      go_enter Try.func11, Try.ntmps11
      go_wp2_with fail
      refine (read_no m x n r c D f _ (HD.out _ (B1.out _)) HI.out).mono ?_
      rintro e w2 ⟨rfl, b2⟩
      have P := Lib.hid (PO.out w2 ((B1.out _).trans (b2.mono (by simp))))
      go_wp2_with fail
      go_ret2
      exact P.out
    · have h1' : (k == 1) = false := by simpa using h1
      by_cases h2 : k = 2
      · subst h2
        clear h1 h1'
        go_enter Try.func11, Try.ntmps11
        go_wp2_with fail
        refine (write_none m x n r c D f _ _ (HD.out _ (B1.out _)) HI.out).mono ?_
        rintro e w2 ⟨rfl, b2⟩
        have P := Lib.hid (PO.out w2 ((B1.out _).trans (b2.mono (by simp))))
        go_wp2_with fail
        go_ret2
        exact P.out
      · have h2' : (k == 2) = false := by simpa using h2
        go_enter Try.func11, Try.ntmps11
        go_wp2_with fail
        refine (clear_no (N := fun b => w.heap.size ≤ b) m x n r c D _ [f] _ (HD.out _ ?h1) ?h2 (by simp) (one_out HI.out)).mono ?_
        case h1 => exact ((Below.refl _ _).alloc (Nat.le_refl _) _).alloc (by simp) _
        case h2 => exact one_ints2 w _ _
        rintro e w2 ⟨rfl, rfl⟩
        have P := Lib.hid (PO.out _ (((Below.refl w.heap.size w).alloc (Nat.le_refl _) (.cells #[.int .i64 k, .int .i64 f, .slice ba bs.length bc] 34)).alloc (by simp) (.cells #[.int .i64 f] 3)))
        go_wp2_with fail
        go_ret2
        exact P.out
end Go.Proofs.Ytpijefkkhhgbfaa

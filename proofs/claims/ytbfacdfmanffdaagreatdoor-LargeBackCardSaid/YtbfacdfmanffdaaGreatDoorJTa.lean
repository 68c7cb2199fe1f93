/- Package large's tally: a row of bytes, so many times, onto columns of numbers. -/
import Derived.Test.YtbfacdfmanffdaaGreatDoorJPa
namespace Go.Proofs.YtbfacdfmanffdaaGreatDoor
set_option maxRecDepth 1000000
open Go.ChangeShapes Go.WideShapes Go.ChangeAt Go.RowKit

set_option maxHeartbeats 4000000 in
theorem tally_code {N : Nat → Prop} (g off l cap m : Nat) (f : Nat → Int) (M K : Int) (v : Value) (bs : List Int) (n : Int) (w : World) (hR : RowF w g m f) (hv : Bts N w v bs) (hN : ∀ b, N b → b ≠ g) (hb : Bytes bs)
    (hl : bs.length ≤ l) (hlc : l ≤ cap) (hm : off + l ≤ m) (hmm : m ≤ 1000000000000) (hf : Lim M f) (hn : -K ≤ n ∧ n ≤ K) (hM : M + 255 * K ≤ 9000000000000000000) (hM0 : 0 ≤ M) :
    Calls Tryz.prog 26 #[.slice (some ⟨g, off, none⟩) l cap, v, .int .i64 n] w fun e w' => e = .returned (.tuple #[]) ∧ RowF w' g m (tallyF f off bs n bs.length) ∧ Only (· = g) w w' := by
  have hv' := Bts.kind hv (M := (· ≠ g)) (fun b _ h => hN b h)
  have HV := Lib.hid hv'
  have hmd := fun j => mul_dgt hb hn j
  have HMD := Lib.hid hmd
  have HF := Lib.hid hf
  have HBy := Lib.hid hb
  obtain ⟨ln, hln⟩ : ∃ k, bs.length = k := ⟨_, rfl⟩
  have HC : Hid (∀ w', Only (· = g) w w' → ∀ i, i < ln → ∃ b o c, v = .slice (some ⟨b, o, none⟩) ln c ∧ w'.cell? ⟨b, o + i, none⟩ = some (.int .u8 (dgt bs i))) := Lib.hid fun w' ho i hi => by
    obtain ⟨b, o, c, he, _, _, _, h⟩ := bts_cells (Bts.only hv' ho (fun b hb => hb)) (by omega)
    exact ⟨b, o, c, by rw [he, hln], h i (by omega)⟩
  obtain ⟨va, c, rfl, hc⟩ := Bts.form hv
  have hD : Hid (∀ j, 0 ≤ dgt bs j ∧ dgt bs j ≤ 255) := Lib.hid (dgt_rng hb)
  have HR := Lib.hid hR
  rw [hln] at hl hc ⊢
  clear hv hv' hb hln HV hmd hf hR hN
  go_enter Tryz.func26, Tryz.ntmps26
  go_wp2_with fail
  go_loopw [10] (fun s wr => ∃ i : Nat, i ≤ ln ∧ s = .int .i64 i ∧ Hid (RowF wr g m (tallyF f off bs n i)) ∧ Hid (Only (· = g) w wr)) (fun s _ => ln - (RowKit.intOf s).toNat)
  case atStart => exact ⟨0, Nat.zero_le _, rfl, by rw [tallyF_zero]; exact HR, Lib.hid (Only.refl _ _)⟩
  case round =>
    obtain ⟨i, hi, rfl, HRi, HO⟩ := hrel
    by_cases hlt : i < ln
    · obtain ⟨b, o, c', he, q⟩ := HC.out wr HO.out i hlt
      injection he with e1 _ e2
      subst e1 e2
      have q2 := HRi.out.1 (off + i) (by omega)
      have q3 := HRi.out.2.1 (off + i)
      have hat := tallyF_at f off bs n i
      rw [hat] at q2
      have h1 := HF.out (off + i)
      have h2 := HMD.out i
      have h3 := hD.out i
      obtain ⟨x, hx⟩ : ∃ x, n * dgt bs i = x := ⟨_, rfl⟩
      obtain ⟨y, hy⟩ : ∃ y, f (off + i) = y := ⟨_, rfl⟩
      obtain ⟨d, hd⟩ : ∃ d, dgt bs i = d := ⟨_, rfl⟩
      have HS : Hid (RowF (wr.setCell ⟨g, off + i, none⟩ (.int .i64 (y + x))) g m (tallyF f off bs n (i + 1))) := Lib.hid ((HRi.out.set (p := off + i) (by omega) (y + x)).as fun j _ => by rw [← tallyF_step, ← hx, ← hy])
      have HO' : Hid (Only (· = g) w (wr.setCell ⟨g, off + i, none⟩ (.int .i64 (y + x)))) := Lib.hid (HO.out.setCell ⟨g, off + i, none⟩ (.inl rfl) _)
      rw [hx] at h2
      rw [hy] at h1 q2
      rw [hd] at h3 hx q
      have w1 : IntKind.i64.wrap (n * d) = x := by rw [hx, IntKind.wrap_i64]; omega
      have w2 : IntKind.i64.wrap (y + x) = y + x := by rw [IntKind.wrap_i64]; omega
      have hil : i < l := by omega
      clear HR HRi HO HC HMD HF hat hx hy hd hD
      go_wp2_with fail
      exact ⟨⟨i + 1, by omega, by go_num, HS, HO'⟩, by simp [RowKit.intOf]; omega⟩
    · obtain rfl : i = ln := by omega
      clear HC HMD HF HR
      go_wp2_with fail
      go_end0
      exact ⟨rfl, HRi.out, HO.out⟩
end Go.Proofs.YtbfacdfmanffdaaGreatDoor

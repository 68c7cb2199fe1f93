/- A range over a function: one law for the caller, over an iterator that gives a row xs, one behind the other, to whoever keeps what it names; the caller's invariant speaks of whatever memory it likes. No condition but those that the statement names. -/
import Derived.RangeFuncNested
import Derived.RangeFuncBound
import Derived.RangeFuncCalls
import Derived.RangeFuncLeaves
import Derived.Shelf.Abstract
import Derived.Shelf.RegionOpen
import Derived.WalkKit
import Derived.OwnWalkIn
import Derived.TacticsInMore
import Derived.LoopNIn
import Derived.LoopIn
import Derived.Test.YtbfacdfmanffdaaGreatDoorRows
namespace Go.Proofs.YtbfacdfmanffdaaGreatDoor
open Go.RowKit Go.Shelf

/-- An iterator that gives xs. Ab: what it does between two rounds (E: the heap's size where its call began); Kp: what a round must keep; Rd: what it reads ahead of round k. -/
def SeqX {α : Type} (F : Fence) (n : Nat) (P : Program) (g : Nat) (lb : Array Value) (encs : α → Array Value) (xs : List α) (Ab Kp : Nat → World → World → Prop) (Rd : Nat → World → Prop) : Prop :=
  ∀ (l : Nat) (J : Nat → World → Prop) (Jx : World → Prop) (W : World), (∀ k A, J k A → Rd k A) → (∀ k A B, J k A → Ab W.heap.size A B → J k B) →
    (∀ k x A, xs[k]? = some x → J k A → YieldAt F (n - 1) P l (encs x) A fun e B => Kp W.heap.size A B ∧ ((e = .returned (.bool true) ∧ J (k + 1) B) ∨ (e = .returned (.bool false) ∧ Jx B))) →
    J 0 W → CallsIn F n P g (#[.func (.yield l) #[] #[]] ++ lb) W fun e B => (∃ v, e = .returned v) ∧ (J xs.length B ∨ Jx B)

theorem put_size (W : World) (l : Nat) (o : Obj) : (W.putObj l o).heap.size = W.heap.size := by simp [World.putObj]
/-- How the body of a round may be left. -/
def postX (B : Nat) (Kp : World → World → Prop) (I : Nat → World → Prop) (Ix : Code → World → Prop) (k : Nat) (W : World) : Exit → Act → World → Prop
  | .normal, _, W' => KeepsFrom B W W' ∧ Kp W W' ∧ I k W'
  | .ret, _, W' => KeepsFrom B W W' ∧ Kp W W' ∧ Ix .ret W'
  | .exit id, _, W' => KeepsFrom B W W' ∧ Kp W W' ∧ Ix (.exit id) W'
  | .goto t, _, W' => KeepsFrom B W W' ∧ Kp W W' ∧ Ix (.goto t) W'
  | .panic _, _, _ => False
  | .outgrown, _, _ => False

/-- The assignment to the loop's variables is over; what follows is the body, from whatever world the round's beginning leaves. -/
def Asg (W : World) (B : Act → Prop) (a : Act) (W2 : World) : Prop := W = W2 ∧ B a
theorem Asg.mk {W : World} {B : Act → Prop} {a : Act} (h : B a) : Asg W B a W := ⟨rfl, h⟩
theorem rangeFunc_x {F : Fence} {n : Nat} {P : Program} {α : Type} {g : Operand} {ps : Array Tmp} {assign body : Code} {Q : Exit → Act → World → Prop} {a : Act} {w : World}
    (hro : F.round = none) (h1 : 1 ≤ n) {gf : Nat} {lb : Array Value} (hg : a.eval g = .func (.func gf) #[] lb) (hFg : F.fn gf) (eg : ∀ args w, (callFunc gf args).run P w = .ok (.enter gf args) w)
    {encs : α → Array Value} {xs : List α} {Ab Kp : Nat → World → World → Prop} {Rd : Nat → World → Prop} (hseq : SeqX F (n - 1) P gf lb encs xs Ab Kp Rd)
    (hAb : ∀ E A B b o, Ab E A B → b < E → A.heap[b]? = some o → B.heap[b]? = some o)
    (hKt : ∀ E A B C, Kp E A B → Kp E B C → Kp E A C) (hKb : ∀ E A l o', l < E → E ≤ A.heap.size → Kp E A (A.putObj l o')) (hps : ∀ x, (encs x).size = ps.size)
    (I : Nat → World → Prop) (Ix : Code → World → Prop) (hI : OwnFrom w.heap.size I) (hIx : OwnFrom w.heap.size Ix) (hIR : ∀ k A, I k A → Rd k A) (hIA : ∀ k A B, I k A → Ab (w.heap.size + 2) A B → I k B) (h0 : I 0 w)
    (hround : ∀ (l k : Nat) (x : α) (W0 : World), xs[k]? = some x →
      assign.wpIn (F.inRound l) (n - 1 - 1) P (Exit.then (Asg W0 fun a' => ∀ W : World, I k W → w.heap.size + 2 ≤ W.heap.size → body.wpIn (F.inRound l) (n - 1 - 1) P (postX w.heap.size (Kp (w.heap.size + 2)) I Ix (k + 1) W) a' W) (fun _ _ _ => False)) { tmps := (ps.zip (encs x)).foldl (fun t (p, v) => t.setIfInBounds p v) a.tmps, defers := [] } W0)
    (hdone : ∀ (D : Nat) (W : World), w.heap.size ≤ D → I xs.length W → W.heap[D]? = some (.deferred (some [])) → Q .normal { a with defers := { target := .collected D, args := #[] } :: a.defers } W)
    (hstop : ∀ (D : Nat) (c : Code) (W : World), w.heap.size ≤ D → Ix c W → W.heap[D]? = some (.deferred (some [])) → c.wpIn F n P Q { a with defers := { target := .collected D, args := #[] } :: a.defers } W) :
    (Code.rangeFunc g ps assign body).wpIn F n P Q a w := by
  refine wpIn_rangeFunc ?_
  intro fn hfn
  rw [hro]
  obtain ⟨rec, hrec⟩ : ∃ rec : LoopState → Option Code → Loop, rec = fun st pe => { state := st, pending := pe, fn, tmps := a.tmps, params := ps, assign, body, defers := w.heap.size } := ⟨_, rfl⟩
  obtain ⟨W1, hW1⟩ : ∃ W1, (w.alloc (.deferred (some []))).alloc (.loop (rec .ready none)) = W1 := ⟨_, rfl⟩
  have hL1 : W1.heap[w.heap.size + 1]? = some (.loop (rec .ready none)) := by
    rw [← hW1]; have := World.alloc_heap_new (w.alloc (.deferred (some []))) (.loop (rec .ready none)); rwa [World.size_alloc] at this
  have hK1 : W1.heap[w.heap.size]? = some (.deferred (some [])) := by
    rw [← hW1]; exact (Below.heap_alloc _ _ _ (by simp)).trans (World.alloc_heap_new w _)
  have hI1 : I 0 W1 := by rw [← hW1]; exact hI.alloc _ (hI.alloc _ h0)
  have hs1 : W1.heap.size = w.heap.size + 2 := by rw [← hW1]; simp
  refine ⟨w.heap.size + 1, [{ target := .collected w.heap.size, args := #[] }], W1, { target := .fn (.func gf) lb, args := #[.func (.yield (w.heap.size + 1)) #[] #[]] }, W1, gf,
    #[.func (.yield (w.heap.size + 1)) #[] #[]] ++ lb, W1, ?_, ?_, ?_, ?_, fun _ => h1, ?_⟩
  · rw [← hW1, hrec]; exact run_enterLoop_outer _ _ _ _ _
  · simp only [resolve, hg]
    simp [go_sem]
  · intro f' hf'; simp [Target.leads] at hf'; subst hf'; exact hFg
  · simp [invoke, go_sem, eg]
  · refine (hseq (w.heap.size + 1)
      (fun k W => I k W ∧ w.heap.size + 2 ≤ W.heap.size ∧ W.heap[w.heap.size + 1]? = some (.loop (rec .ready none)) ∧ W.heap[w.heap.size]? = some (.deferred (some [])))
      (fun W => ∃ c, Ix c W ∧ W.heap[w.heap.size + 1]? = some (.loop (rec .done (some c))) ∧ W.heap[w.heap.size]? = some (.deferred (some [])))
      W1 (fun k A h => hIR k A h.1)
      (fun k A B h hab => by
        rw [hs1] at hab
        have hA : w.heap.size + 1 < A.heap.size := h.2.1
        have key : ∀ b, b < w.heap.size + 2 → b < B.heap.size := fun b hb => by
          have hb' : b < A.heap.size := by omega
          have := hAb _ _ _ b _ hab hb (Array.getElem?_eq_getElem hb')
          exact (Array.getElem?_eq_some_iff.1 this).1
        exact ⟨hIA k A B h.1 hab, by have := key (w.heap.size + 1) (by omega); omega, hAb _ _ _ _ _ hab (by omega) h.2.2.1, hAb _ _ _ _ _ hab (by omega) h.2.2.2⟩)
      ?_ ⟨hI1, by omega, hL1, hK1⟩).mono ?_
    · -- one round
      rintro k x W hx ⟨hi, hsz, hl, hk⟩
      have hlt : w.heap.size + 1 < W.heap.size := (Array.getElem?_eq_some_iff.1 hl).1
      have hy := run_yield (P := P) (args := encs x) hl (by rw [hrec]; exact hps x)
      rw [hrec] at hy
      rw [hs1]
      refine ⟨fn, _, assign, body, hy, roundIn_of_wpIn hfn (wpIn_mono (hround _ k x W hx) ?_)⟩
      rintro ea a' Wa hea
      cases ea with
      | ret => exact hea.elim
      | exit id => exact hea.elim
      | goto t => exact hea.elim
      | panic ch => exact hea.elim
      | outgrown => exact hea.elim
      | normal => ?_
      obtain ⟨rfl, hbody⟩ := hea
      refine ⟨_, run_beginRound hl (by rw [hrec]), ?_⟩
      have hl2 : (W.putObj (w.heap.size + 1) (.loop { rec .ready none with state := .busy })).heap[w.heap.size + 1]? = some (.loop { rec .ready none with state := .busy }) := World.putObj_heap_same hlt
      have hk2 : (W.putObj (w.heap.size + 1) (.loop { rec .ready none with state := .busy })).heap[w.heap.size]? = some (.deferred (some [])) := (World.putObj_heap_other (by omega)).trans hk
      refine wpIn_mono (hbody _ (hI.putObj _ hi (by omega) hl rfl) (by rw [put_size]; exact hsz)) ?_
      have fin : ∀ (jump : Option Code) (W3 : World), KeepsFrom w.heap.size (W.putObj (w.heap.size + 1) (.loop { rec .ready none with state := .busy })) W3 →
          Kp (w.heap.size + 2) (W.putObj (w.heap.size + 1) (.loop { rec .ready none with state := .busy })) W3 →
          (Instr.endRound (w.heap.size + 1) jump).run P W3 = .ok (.bool jump.isNone) (W3.putObj (w.heap.size + 1) (.loop (rec (if jump.isNone then .ready else .done) jump))) ∧
          W3.heap[w.heap.size + 1]? = some (.loop { rec .ready none with state := .busy }) ∧
          (W3.putObj (w.heap.size + 1) (.loop (rec (if jump.isNone then .ready else .done) jump))).heap[w.heap.size + 1]? = some (.loop (rec (if jump.isNone then .ready else .done) jump)) ∧
          (W3.putObj (w.heap.size + 1) (.loop (rec (if jump.isNone then .ready else .done) jump))).heap[w.heap.size]? = some (.deferred (some [])) ∧
          w.heap.size + 2 ≤ (W3.putObj (w.heap.size + 1) (.loop (rec (if jump.isNone then .ready else .done) jump))).heap.size ∧
          Kp (w.heap.size + 2) W (W3.putObj (w.heap.size + 1) (.loop (rec (if jump.isNone then .ready else .done) jump))) := fun jump W3 hk3 hkp => by
        have hl3 := hk3.same _ _ (by omega) hl2 rfl
        have := run_endRound (P := P) jump hl3
        have hsz3 : w.heap.size + 2 ≤ W3.heap.size := by have := hk3.size; rw [put_size] at this; omega
        rw [hrec] at this ⊢
        exact ⟨this, by rw [hrec] at hl3; exact hl3, World.putObj_heap_same (Array.getElem?_eq_some_iff.1 hl3).1, (World.putObj_heap_other (by omega)).trans (hk3.same _ _ (Nat.le_refl _) hk2 rfl), by rw [put_size]; exact hsz3,
          hKt _ _ _ _ (hKb _ _ _ _ (by omega) hsz) (hKt _ _ _ _ hkp (hKb _ _ _ _ (by omega) hsz3))⟩
      rintro e a3 W3 hp
      cases e with
      | normal =>
        obtain ⟨hk3, hkp3, hi3⟩ := hp
        obtain ⟨hr, hl3, hl4, hk4, hs4, hp4⟩ := fin none W3 hk3 hkp3
        exact ⟨_, _, hr, hp4, .inl ⟨rfl, hI.putObj _ hi3 (by omega) hl3 rfl, hs4, hl4, hk4⟩⟩
      | ret =>
        obtain ⟨hk3, hkp3, hi3⟩ := hp
        obtain ⟨hr, hl3, hl4, hk4, hs4, hp4⟩ := fin (some .ret) W3 hk3 hkp3
        exact ⟨_, _, hr, hp4, .inr ⟨rfl, .ret, hIx.putObj _ hi3 (by omega) hl3 rfl, hl4, hk4⟩⟩
      | exit id =>
        obtain ⟨hk3, hkp3, hi3⟩ := hp
        obtain ⟨hr, hl3, hl4, hk4, hs4, hp4⟩ := fin (some (.exit id)) W3 hk3 hkp3
        exact ⟨_, _, hr, hp4, .inr ⟨rfl, .exit id, hIx.putObj _ hi3 (by omega) hl3 rfl, hl4, hk4⟩⟩
      | goto t =>
        obtain ⟨hk3, hkp3, hi3⟩ := hp
        obtain ⟨hr, hl3, hl4, hk4, hs4, hp4⟩ := fin (some (.goto t)) W3 hk3 hkp3
        exact ⟨_, _, hr, hp4, .inr ⟨rfl, .goto t, hIx.putObj _ hi3 (by omega) hl3 rfl, hl4, hk4⟩⟩
      | panic ch => exact hp.elim
      | outgrown => exact hp.elim
    · -- behind the iterator
      rintro e W2 ⟨⟨v, rfl⟩, (⟨hi, _, hl, hk⟩ | ⟨c, hi, hl, hk⟩)⟩
      · exact ⟨none, _, by have := run_endLoop (P := P) hl (by rw [hrec]; simp); rw [hrec] at this; exact this, hdone _ _ (Nat.le_refl _) (hI.putObj _ hi (by omega) hl rfl) ((World.putObj_heap_other (by omega)).trans hk)⟩
      · exact ⟨some c, _, by have := run_endLoop (P := P) hl (by rw [hrec]; simp); rw [hrec] at this; exact this, hstop _ c _ (Nat.le_refl _) (hIx.putObj _ hi (by omega) hl rfl) ((World.putObj_heap_other (by omega)).trans hk)⟩

/-- An iterator that gives xs to whoever takes all of it. -/
def SeqT {α : Type} (F : Fence) (n : Nat) (P : Program) (g : Nat) (lb : Array Value) (encs : α → Array Value) (xs : List α) (Ab Kp : Nat → World → World → Prop) (Rd : Nat → World → Prop) : Prop :=
  ∀ (l : Nat) (J : Nat → World → Prop) (W : World), (∀ k A, J k A → Rd k A) → (∀ k A B, J k A → Ab W.heap.size A B → J k B) →
    (∀ k x A, xs[k]? = some x → J k A → YieldAt F (n - 1) P l (encs x) A fun e B => Kp W.heap.size A B ∧ e = .returned (.bool true) ∧ J (k + 1) B) →
    J 0 W → CallsIn F n P g (#[.func (.yield l) #[] #[]] ++ lb) W fun e B => (∃ v, e = .returned v) ∧ J xs.length B
theorem rangeFunc_t {F : Fence} {n : Nat} {P : Program} {α : Type} {g : Operand} {ps : Array Tmp} {assign body : Code} {Q : Exit → Act → World → Prop} {a : Act} {w : World}
    (hro : F.round = none) (h1 : 1 ≤ n) {gf : Nat} {lb : Array Value} (hg : a.eval g = .func (.func gf) #[] lb) (hFg : F.fn gf) (eg : ∀ args w, (callFunc gf args).run P w = .ok (.enter gf args) w)
    {encs : α → Array Value} {xs : List α} {Ab Kp : Nat → World → World → Prop} {Rd : Nat → World → Prop} (hseq : SeqT F (n - 1) P gf lb encs xs Ab Kp Rd)
    (hAb : ∀ E A B b o, Ab E A B → b < E → A.heap[b]? = some o → B.heap[b]? = some o)
    (hKt : ∀ E A B C, Kp E A B → Kp E B C → Kp E A C) (hKb : ∀ E A l o', l < E → E ≤ A.heap.size → Kp E A (A.putObj l o')) (hps : ∀ x, (encs x).size = ps.size)
    (I : Nat → World → Prop) (hI : OwnFrom w.heap.size I) (hIR : ∀ k A, I k A → Rd k A) (hIA : ∀ k A B, I k A → Ab (w.heap.size + 2) A B → I k B) (h0 : I 0 w)
    (hround : ∀ (l k : Nat) (x : α) (W0 : World), xs[k]? = some x →
      assign.wpIn (F.inRound l) (n - 1 - 1) P (Exit.then (Asg W0 fun a' => ∀ W : World, I k W → w.heap.size + 2 ≤ W.heap.size → body.wpIn (F.inRound l) (n - 1 - 1) P (postX w.heap.size (Kp (w.heap.size + 2)) I (fun _ _ => False) (k + 1) W) a' W) (fun _ _ _ => False)) { tmps := (ps.zip (encs x)).foldl (fun t (p, v) => t.setIfInBounds p v) a.tmps, defers := [] } W0)
    (hdone : ∀ (D : Nat) (W : World), w.heap.size ≤ D → I xs.length W → W.heap[D]? = some (.deferred (some [])) → Q .normal { a with defers := { target := .collected D, args := #[] } :: a.defers } W) :
    (Code.rangeFunc g ps assign body).wpIn F n P Q a w := by
  refine wpIn_rangeFunc ?_
  intro fn hfn
  rw [hro]
  obtain ⟨rec, hrec⟩ : ∃ rec : LoopState → Option Code → Loop, rec = fun st pe => { state := st, pending := pe, fn, tmps := a.tmps, params := ps, assign, body, defers := w.heap.size } := ⟨_, rfl⟩
  obtain ⟨W1, hW1⟩ : ∃ W1, (w.alloc (.deferred (some []))).alloc (.loop (rec .ready none)) = W1 := ⟨_, rfl⟩
  have hL1 : W1.heap[w.heap.size + 1]? = some (.loop (rec .ready none)) := by
    rw [← hW1]; have := World.alloc_heap_new (w.alloc (.deferred (some []))) (.loop (rec .ready none)); rwa [World.size_alloc] at this
  have hK1 : W1.heap[w.heap.size]? = some (.deferred (some [])) := by
    rw [← hW1]; exact (Below.heap_alloc _ _ _ (by simp)).trans (World.alloc_heap_new w _)
  have hI1 : I 0 W1 := by rw [← hW1]; exact hI.alloc _ (hI.alloc _ h0)
  have hs1 : W1.heap.size = w.heap.size + 2 := by rw [← hW1]; simp
  refine ⟨w.heap.size + 1, [{ target := .collected w.heap.size, args := #[] }], W1, { target := .fn (.func gf) lb, args := #[.func (.yield (w.heap.size + 1)) #[] #[]] }, W1, gf,
    #[.func (.yield (w.heap.size + 1)) #[] #[]] ++ lb, W1, ?_, ?_, ?_, ?_, fun _ => h1, ?_⟩
  · rw [← hW1, hrec]; exact run_enterLoop_outer _ _ _ _ _
  · simp only [resolve, hg]
    simp [go_sem]
  · intro f' hf'; simp [Target.leads] at hf'; subst hf'; exact hFg
  · simp [invoke, go_sem, eg]
  · refine (hseq (w.heap.size + 1)
      (fun k W => I k W ∧ w.heap.size + 2 ≤ W.heap.size ∧ W.heap[w.heap.size + 1]? = some (.loop (rec .ready none)) ∧ W.heap[w.heap.size]? = some (.deferred (some [])))
      W1 (fun k A h => hIR k A h.1)
      (fun k A B h hab => by
        rw [hs1] at hab
        have hA : w.heap.size + 1 < A.heap.size := h.2.1
        have key : ∀ b, b < w.heap.size + 2 → b < B.heap.size := fun b hb => by
          have hb' : b < A.heap.size := by omega
          have := hAb _ _ _ b _ hab hb (Array.getElem?_eq_getElem hb')
          exact (Array.getElem?_eq_some_iff.1 this).1
        exact ⟨hIA k A B h.1 hab, by have := key (w.heap.size + 1) (by omega); omega, hAb _ _ _ _ _ hab (by omega) h.2.2.1, hAb _ _ _ _ _ hab (by omega) h.2.2.2⟩)
      ?_ ⟨hI1, by omega, hL1, hK1⟩).mono ?_
    · -- one round
      rintro k x W hx ⟨hi, hsz, hl, hk⟩
      have hlt : w.heap.size + 1 < W.heap.size := (Array.getElem?_eq_some_iff.1 hl).1
      have hy := run_yield (P := P) (args := encs x) hl (by rw [hrec]; exact hps x)
      rw [hrec] at hy
      rw [hs1]
      refine ⟨fn, _, assign, body, hy, roundIn_of_wpIn hfn (wpIn_mono (hround _ k x W hx) ?_)⟩
      rintro ea a' Wa hea
      cases ea with
      | ret => exact hea.elim
      | exit id => exact hea.elim
      | goto t => exact hea.elim
      | panic ch => exact hea.elim
      | outgrown => exact hea.elim
      | normal => ?_
      obtain ⟨rfl, hbody⟩ := hea
      refine ⟨_, run_beginRound hl (by rw [hrec]), ?_⟩
      have hl2 : (W.putObj (w.heap.size + 1) (.loop { rec .ready none with state := .busy })).heap[w.heap.size + 1]? = some (.loop { rec .ready none with state := .busy }) := World.putObj_heap_same hlt
      have hk2 : (W.putObj (w.heap.size + 1) (.loop { rec .ready none with state := .busy })).heap[w.heap.size]? = some (.deferred (some [])) := (World.putObj_heap_other (by omega)).trans hk
      refine wpIn_mono (hbody _ (hI.putObj _ hi (by omega) hl rfl) (by rw [put_size]; exact hsz)) ?_
      have fin : ∀ (jump : Option Code) (W3 : World), KeepsFrom w.heap.size (W.putObj (w.heap.size + 1) (.loop { rec .ready none with state := .busy })) W3 →
          Kp (w.heap.size + 2) (W.putObj (w.heap.size + 1) (.loop { rec .ready none with state := .busy })) W3 →
          (Instr.endRound (w.heap.size + 1) jump).run P W3 = .ok (.bool jump.isNone) (W3.putObj (w.heap.size + 1) (.loop (rec (if jump.isNone then .ready else .done) jump))) ∧
          W3.heap[w.heap.size + 1]? = some (.loop { rec .ready none with state := .busy }) ∧
          (W3.putObj (w.heap.size + 1) (.loop (rec (if jump.isNone then .ready else .done) jump))).heap[w.heap.size + 1]? = some (.loop (rec (if jump.isNone then .ready else .done) jump)) ∧
          (W3.putObj (w.heap.size + 1) (.loop (rec (if jump.isNone then .ready else .done) jump))).heap[w.heap.size]? = some (.deferred (some [])) ∧
          w.heap.size + 2 ≤ (W3.putObj (w.heap.size + 1) (.loop (rec (if jump.isNone then .ready else .done) jump))).heap.size ∧
          Kp (w.heap.size + 2) W (W3.putObj (w.heap.size + 1) (.loop (rec (if jump.isNone then .ready else .done) jump))) := fun jump W3 hk3 hkp => by
        have hl3 := hk3.same _ _ (by omega) hl2 rfl
        have := run_endRound (P := P) jump hl3
        have hsz3 : w.heap.size + 2 ≤ W3.heap.size := by have := hk3.size; rw [put_size] at this; omega
        rw [hrec] at this ⊢
        exact ⟨this, by rw [hrec] at hl3; exact hl3, World.putObj_heap_same (Array.getElem?_eq_some_iff.1 hl3).1, (World.putObj_heap_other (by omega)).trans (hk3.same _ _ (Nat.le_refl _) hk2 rfl), by rw [put_size]; exact hsz3,
          hKt _ _ _ _ (hKb _ _ _ _ (by omega) hsz) (hKt _ _ _ _ hkp (hKb _ _ _ _ (by omega) hsz3))⟩
      rintro e a3 W3 hp
      cases e with
      | normal =>
        obtain ⟨hk3, hkp3, hi3⟩ := hp
        obtain ⟨hr, hl3, hl4, hk4, hs4, hp4⟩ := fin none W3 hk3 hkp3
        exact ⟨_, _, hr, hp4, rfl, hI.putObj _ hi3 (by omega) hl3 rfl, hs4, hl4, hk4⟩
      | ret => exact hp.2.2.elim
      | exit id => exact hp.2.2.elim
      | goto t => exact hp.2.2.elim
      | panic ch => exact hp.elim
      | outgrown => exact hp.elim
    · -- behind the iterator
      rintro e W2 ⟨⟨v, rfl⟩, hi, _, hl, hk⟩
      exact ⟨none, _, by have := run_endLoop (P := P) hl (by rw [hrec]; simp); rw [hrec] at this; exact this, hdone _ _ (Nat.le_refl _) (hI.putObj _ hi (by omega) hl rfl) ((World.putObj_heap_other (by omega)).trans hk)⟩

/-- An iterator that only draws, or makes what is new. -/
def AbNew (_ : Nat) (A B : World) : Prop := Below A.heap.size A B
/-- An iterator that changes only what was made since its call began. -/
def AbOwn (E : Nat) (A B : World) : Prop := Below E A B
/-- A round may do what it likes. -/
def KpAny (_ : Nat) (_ _ : World) : Prop := True
/-- A round changes nothing of what the iterator has made. -/
def KpOwn (E : Nat) (A B : World) : Prop := A.heap.size ≤ B.heap.size ∧ ∀ b, E ≤ b → b < A.heap.size → B.heap[b]? = A.heap[b]?
theorem abNew_kept (E : Nat) (A B : World) (b : Nat) (o : Obj) (h : AbNew E A B) (_ : b < E) (ho : A.heap[b]? = some o) : B.heap[b]? = some o := (h.block b (Array.getElem?_eq_some_iff.1 ho).1).trans ho
theorem abOwn_kept (E : Nat) (A B : World) (b : Nat) (o : Obj) (h : AbOwn E A B) (hb : b < E) (ho : A.heap[b]? = some o) : B.heap[b]? = some o := (h.block b hb).trans ho
theorem kpOwn_trans (E : Nat) (A B C : World) (h : KpOwn E A B) (k : KpOwn E B C) : KpOwn E A C := ⟨Nat.le_trans h.1 k.1, fun b h1 h2 => (k.2 b h1 (Nat.lt_of_lt_of_le h2 h.1)).trans (h.2 b h1 h2)⟩
theorem kpOwn_put (E : Nat) (A : World) (l : Nat) (o' : Obj) (hl : l < E) (_ : E ≤ A.heap.size) : KpOwn E A (A.putObj l o') := ⟨by simp [World.putObj], fun b h1 _ => World.putObj_heap_other (by omega)⟩
theorem then_no {P : Program} {c : Code} {K : Act → World → Prop} {Q : Exit → Act → World → Prop} {a : Act} {w : World} (h : c.wp P (Exit.then K fun _ _ _ => False) a w) : c.wp P (Exit.then K Q) a w :=
  (wpIn_wide (n := 0)).1 (wpIn_mono ((wpIn_wide (n := 0)).2 h) fun e a w he => by
    cases e with
    | normal => exact he
    | ret => exact he.elim
    | exit id => exact he.elim
    | goto t => exact he.elim
    | panic ch => exact he.elim
    | outgrown => exact he.elim)
theorem below_drews {N : Nat} {w W : World} (h : Below N w W) (d : Nat) : Below N w (W.drewN d) := ⟨h.os, h.tape, h.output, h.size, h.block⟩
theorem box_grown {W W' : World} {row : Option Nat} {B : Nat} {t : TypeId} {v : Value} (h : Boxed W B t v) (hg : W.grownBy W' row) (hr : ∀ r, row = some r → ∃ o : Obj, W.heap[r]? = some o ∧ o.isCells = false) : Boxed W' B t v :=
  h.kept hg fun e => by
    obtain ⟨o, ho, hc⟩ := hr B e.symm
    rw [show W.heap[B]? = _ from h] at ho
    cases ho
    cases hc
theorem box_next {W W' : World} {B N : Nat} {t : TypeId} {v : Value} (h : Boxed W B t v) (hb : Below N W W') (hN : B < N) : Boxed W' B t v := (hb.block B hN).trans h
theorem below_grown {N : Nat} {w W W' : World} {row : Option Nat} (h : Below N w W) (hN : N ≤ w.heap.size) (hg : W.grownBy W' row) (hr : ∀ r, row = some r → N ≤ r) : Below N w W' := h.grown hg (Nat.le_trans hN h.size) hr
/-- What a function's end does with the loop's block. -/
theorem below_end {N : Nat} {w W : World} (D : Nat) (o : Obj) (h : Below N w W) (hD : N ≤ D) (hk : W.heap[D]? = some o) (o' : Obj) : Below N w (W.putObj D o') :=
  h.trans ((Below.refl N W).grown (grownBy_putObj' W D o') (by have := (Array.getElem?_eq_some_iff.1 hk).1; omega) (fun k e => by cases e; omega))
theorem cell_end {W : World} {D : Nat} {o : Obj} (hk : W.heap[D]? = some o) (ho : o.isCells = false) (o' : Obj) {p : Addr} {v : Value} (h : W.cell? p = some v) : (W.putObj D o').cell? p = some v :=
  cell_kept h (grownBy_putObj' W D o') (fun r e => by cases e; exact ⟨_, hk, ho⟩)
/-! A region that draws its order, in a round: as anywhere. -/
def noDefer (ops : Array Oper) : Bool := ops.toList.all fun o => match o.op with
  | .defer _ => false
  | _ => true
theorem noDefer_at {ops : Array Oper} (h : noDefer ops = true) {i : Nat} {o : Oper} (ho : ops[i]? = some o) : ∀ c, o.op ≠ .defer c := fun c e => by
  have h1 := List.all_eq_true.1 h o (by rw [← Array.getElem?_toList] at ho; exact List.mem_of_getElem? ho)
  rw [e] at h1
  cases h1
theorem opIn_lift {n : Nat} {P : Program} {ops : Array Oper} {Q : Exit → Act → World → Prop} {i : Nat} {K : Act → World → Prop} {a : Act} {w : World} {l : Nat} (hd : noDefer ops = true) (h : wpOpIn Fence.wide n P ops Q i K a w) : wpOpIn (Fence.wide.inRound l) n P ops Q i K a w := by
  unfold wpOpIn at *
  cases ho : ops[i]? with
  | none => rw [ho] at h; exact h
  | some o =>
    rw [ho] at h
    simp only at h ⊢
    by_cases hw : Region.wanted o (yielded ops a.tmps) = true
    · rw [if_pos hw] at h ⊢
      unfold Oper.wpIn at *
      refine ⟨h.1, ?_⟩
      have h2 := h.2
      rw [Oper.semAt_plain Fence.wide _ o (noDefer_at hd ho)] at h2
      rw [Oper.semAt_plain (Fence.wide.inRound l) _ o (noDefer_at hd ho)]
      generalize (execOp a.eval o).run P w = r at *
      cases r with
      | ok x w' => cases x <;> exact h2
      | halt x w' => cases x <;> exact h2
    · rw [if_neg hw] at h ⊢
      exact h
theorem anyIn_lift {n : Nat} {P : Program} {md : Region.Mode} {ops : Array Oper} {Q : Exit → Act → World → Prop} {l : Nat} (hd : noDefer ops = true) : ∀ (fuel : Nat) (listed : Array Bool) (a : Act) (w : World), wpAnyIn Fence.wide n P md ops Q fuel listed a w → wpAnyIn (Fence.wide.inRound l) n P md ops Q fuel listed a w
  | 0, _, _, _, h => h
  | fuel + 1, _, _, _, h => ⟨h.1, fun i hi => opIn_lift hd (wpOpIn_mono (fun _ _ h' => anyIn_lift hd fuel _ _ _ h') (h.2 i hi))⟩
theorem region_round {n : Nat} {P : Program} {id : Nat} {ops : Array Oper} {Q : Exit → Act → World → Prop} {a : Act} {w : World} {l : Nat} (hm : P.follows .mixedOrders = true) (hd : noDefer ops = true)
    (h : wpAnyIn Fence.wide n P .any ops Q ops.size (Array.replicate ops.size false) a w.drew) : (Code.region id ops true).wpIn (Fence.wide.inRound l) n P Q a w :=
  wpIn_region_any hm (anyIn_lift hd _ _ _ _ h)
end Go.Proofs.YtbfacdfmanffdaaGreatDoor

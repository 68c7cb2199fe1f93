/- What a memory of package flat is in memory: its block, its map of objects, its row of numbers; K: the blocks that it may not change. -/
import Derived.Test.YtmaeoefimkppoaaFMp
import Derived.Test.YtmaeoefimkppoaaFPl
namespace Go.Proofs.Ytmaeoefimkppoaa.Fl
set_option maxRecDepth 1000000
open Go.ChangeShapes Go.WideShapes Go.ChangeAt Go.RowKit
open Go.Proofs.Ytmaeoefimkppoaa.Wd

/-- An object of a memory, with the slice value of its words or bytes. -/
structure En where
  o : Ob
  rv : Value
def En.val (e : En) : Value := if e.o.k = 1 then .agg #[.int .i64 e.o.c, .int .i64 e.o.k, e.rv, .slice none 0 0] else .agg #[.int .i64 e.o.c, .int .i64 e.o.k, .slice none 0 0, e.rv]
structure En.Row (w : World) (e : En) : Prop where
  ok : okO e.o = true
  by_ : ByL e.o.b
  row : (e.o.k = 1 ∧ w.ownsRow 0 3 1 e.rv e.o.w.length (e.o.w.map (Value.int .i64))) ∨ (e.o.k = 2 ∧ w.ownsRow 0 5 1 e.rv e.o.b.length (e.o.b.map (Value.int .u8)))
theorem ok_in {o : Ob} (h : okO o = true) : In64 o.c ∧ In64 o.k ∧ I64 o.w := by
  obtain ⟨h1, h2⟩ := (okO_iff o).1 h
  obtain ⟨h3, h4, h5⟩ := nam_rng h1
  refine ⟨⟨by omega, by omega⟩, ?_, ?_⟩
  · rcases h2 with ⟨h, _⟩ | ⟨h, _⟩ <;> rw [h] <;> constructor <;> omega
  · rcases h2 with ⟨_, _, _, h⟩ | ⟨_, h, _⟩
    · intro v hv
      have := val_rng (h v hv)
      omega
    · rw [h]; intro v hv; cases hv
theorem ok_short {o : Ob} (h : okO o = true) : o.w.length ≤ 1000 ∧ o.b.length ≤ 1000 := by
  obtain ⟨h1, h2⟩ := (okO_iff o).1 h
  rcases h2 with ⟨_, h3, h4, _⟩ | ⟨_, h3, h4⟩ <;> rw [h3] <;> constructor <;> first | exact h4 | exact Nat.zero_le _
theorem rowI_nil (w : World) : RowI w (.slice none 0 0) [] := .own (World.ownsRow_nil w 0 3 1) (fun _ h => by cases h)
theorem rowB_nil' (w : World) : RowB w (.slice none 0 0) [] := .own (World.ownsRow_nil w 0 5 1) (fun _ h => by cases h)
theorem En.Row.obj {w : World} {e : En} (h : e.Row w) : ObjAt w e.val e.o := by
  obtain ⟨h1, h2, h3⟩ := ok_in h.ok
  unfold En.val
  rcases h.row with ⟨hk, hr⟩ | ⟨hk, hr⟩
  · rw [if_pos hk]
    refine ⟨_, _, rfl, .own hr h3, ?_, h1, h2⟩
    rcases ((okO_iff _).1 h.ok).2 with ⟨_, hb, _⟩ | ⟨hk', _⟩
    · rw [hb]; exact rowB_nil' w
    · rw [hk] at hk'; cases hk'
  · rw [if_neg (by omega)]
    refine ⟨_, _, rfl, ?_, .own hr h.by_, h1, h2⟩
    rcases ((okO_iff _).1 h.ok).2 with ⟨hk', _⟩ | ⟨_, hb, _⟩
    · rw [hk] at hk'; cases hk'
    · rw [hb]; exact rowI_nil w
theorem own_lt {w : World} {base n : Nat} {e : TypeId} {v : Value} {xs : List Value} (h : w.ownsRow base e 1 v n xs) {g : Nat} (hg : v.ownBlock = some g) : g < w.heap.size := (h.lt g hg).2
theorem En.Row.lt {w : World} {e : En} (h : e.Row w) {g : Nat} (hg : e.rv.ownBlock = some g) : g < w.heap.size := by
  rcases h.row with ⟨_, hr⟩ | ⟨_, hr⟩ <;> exact own_lt hr hg
theorem En.Row.only {w w' : World} {e : En} {P : Nat → Prop} (h : e.Row w) (o : Only P w w') (hP : ∀ g, e.rv.ownBlock = some g → ¬ P g) : e.Row w' :=
  ⟨h.ok, h.by_, h.row.imp (fun ⟨a, b⟩ => ⟨a, own_only b o hP⟩) fun ⟨a, b⟩ => ⟨a, own_only b o hP⟩⟩
theorem own_not_map {w : World} {base n : Nat} {e : TypeId} {v : Value} {xs : List Value} (h : w.ownsRow base e 1 v n xs) {g b : Nat} (hg : v.ownBlock = some g) {es : Array MapEntry} {ck : Nat} (hb : w.heap[b]? = some (.map es ck)) : g ≠ b := by
  rintro rfl
  rcases h.2 with ⟨rfl, _⟩ | ⟨g1, _, _, rfl, _, h3, _⟩
  · cases hg
  · simp only [Value.ownBlock, Option.some.injEq] at hg
    subst hg
    rw [h3] at hb
    cases hb

structure MemR (w : World) (K : Nat → Prop) (m : Nat) (r : Option Nat) (nv : Value) (L : List (Option En)) : Prop where
  c0 : w.cell? ⟨m, 0, none⟩ = some (.int .i64 (L.length : Nat))
  c1 : w.cell? ⟨m, 1, none⟩ = some (.map r)
  c2 : w.cell? ⟨m, 2, none⟩ = some nv
  fz : ∀ j, w.frozen? ⟨m, j, none⟩ = false
  mp : MapO w r L.length (fun i => (at_ L i).map En.val)
  nums : w.ownsRow 0 3 1 nv (ids L).length ((ids L).map (Value.int .i64))
  rows : ∀ i e, at_ L i = some e → e.Row w
  apart : ∀ i j e e', at_ L i = some e → at_ L j = some e' → i ≠ j → ∀ g, e.rv.ownBlock = some g → e'.rv.ownBlock ≠ some g
  off : ∀ i e, at_ L i = some e → ∀ g, e.rv.ownBlock = some g → nv.ownBlock ≠ some g ∧ g ≠ m
  offn : ∀ g, nv.ownBlock = some g → g ≠ m
  offr : ∀ b, r = some b → b ≠ m
  km : ¬ K m
  kr : ∀ b, r = some b → ¬ K b
  kn : ∀ g, nv.ownBlock = some g → ¬ K g
  ko : ∀ i e, at_ L i = some e → ∀ g, e.rv.ownBlock = some g → ¬ K g
  kb : ∀ g, K g → g < w.heap.size
  lt : m < w.heap.size
  few : L.length ≤ 1000000

/-- The memory at block m holds the objects E. -/
def MemB (K : Nat → Prop) (w : World) (m : Nat) (E : Mem) : Prop := ∃ r nv L, MemR w K m r nv L ∧ E = mapO En.o L
/-- The blocks of K are as they were. -/
def Keeps (K : Nat → Prop) (w w' : World) : Prop := Only (fun g => ¬ K g) w w'

section
variable {w w' : World} {K : Nat → Prop} {m : Nat} {r : Option Nat} {nv : Value} {L : List (Option En)} {E : Mem}
theorem MemR.only {P : Nat → Prop} (h : MemR w K m r nv L) (o : Only P w w') (hP : ∀ g, P g → K g) : MemR w' K m r nv L where
  c0 := (o.cell (p := ⟨m, 0, none⟩) h.lt fun hp => h.km (hP _ hp)).trans h.c0
  c1 := (o.cell (p := ⟨m, 1, none⟩) h.lt fun hp => h.km (hP _ hp)).trans h.c1
  c2 := (o.cell (p := ⟨m, 2, none⟩) h.lt fun hp => h.km (hP _ hp)).trans h.c2
  fz := fun j => (o.frozen (p := ⟨m, j, none⟩) h.lt fun hp => h.km (hP _ hp)).trans (h.fz j)
  mp := h.mp.only o fun b hb hp => h.kr b hb (hP _ hp)
  nums := own_only h.nums o fun g hg hp => h.kn g hg (hP _ hp)
  rows := fun i e he => (h.rows i e he).only o fun g hg hp => h.ko i e he g hg (hP _ hp)
  apart := h.apart
  off := h.off
  offn := h.offn
  offr := h.offr
  km := h.km
  kr := h.kr
  kn := h.kn
  ko := h.ko
  kb := fun g hg => Nat.lt_of_lt_of_le (h.kb g hg) o.size
  lt := Nat.lt_of_lt_of_le h.lt o.size
  few := h.few
theorem MemR.fresh (h : MemR w K m r nv L) (b : Below w.heap.size w w') : MemR w' K m r nv L := h.only (only_below b) fun _ h => h.elim
/-- More, or less, may not be changed. -/
theorem MemR.keep {K' : Nat → Prop} (h : MemR w K m r nv L) (b : Below w.heap.size w w') (hK : ∀ g, K' g → K g ∨ (w.heap.size ≤ g ∧ g < w'.heap.size)) : MemR w' K' m r nv L := by
  have h' := h.fresh b
  have no : ∀ g, g < w.heap.size → ¬ K g → ¬ K' g := fun g hg hn hk => by
    rcases hK g hk with h1 | h1
    · exact hn h1
    · omega
  refine { h' with km := no _ h.lt h.km, kr := ?_, kn := ?_, ko := ?_, kb := ?_ }
  · intro g hb
    refine no g ?_ (h.kr g hb)
    rcases h.mp with ⟨e, _⟩ | ⟨b', e, hm⟩
    · rw [e] at hb; cases hb
    · rw [e] at hb; cases hb; exact hm.lt
  · exact fun g hg => no g (own_lt h.nums hg) (h.kn g hg)
  · exact fun i e he g hg => no g ((h.rows i e he).lt hg) (h.ko i e he g hg)
  · intro g hg
    rcases hK g hg with h1 | h1
    · exact h'.kb g h1
    · exact h1.2
theorem MemB.only {P : Nat → Prop} (h : MemB K w m E) (o : Only P w w') (hP : ∀ g, P g → K g) : MemB K w' m E := by
  obtain ⟨r, nv, L, h1, h2⟩ := h
  exact ⟨r, nv, L, h1.only o hP, h2⟩
theorem MemB.fresh (h : MemB K w m E) (b : Below w.heap.size w w') : MemB K w' m E := h.only (only_below b) fun _ h => h.elim
theorem MemB.keep {K' : Nat → Prop} (h : MemB K w m E) (b : Below w.heap.size w w') (hK : ∀ g, K' g → K g ∨ (w.heap.size ≤ g ∧ g < w'.heap.size)) : MemB K' w' m E := by
  obtain ⟨r, nv, L, h1, h2⟩ := h
  exact ⟨r, nv, L, h1.keep b hK, h2⟩
theorem MemR.good (h : MemR w K m r nv L) : GoodM (mapO En.o L) := by
  intro i x hx
  rw [at_map] at hx
  obtain ⟨e, he, rfl⟩ := Option.map_eq_some_iff.1 hx
  have := h.rows i e he
  exact ⟨this.ok, this.by_⟩
theorem MemB.good (h : MemB K w m E) : GoodM E := by
  obtain ⟨r, nv, L, h1, rfl⟩ := h
  exact h1.good
theorem MemB.lt (h : MemB K w m E) : m < w.heap.size := by
  obtain ⟨r, nv, L, h1, h2⟩ := h
  exact h1.lt
theorem MemB.few (h : MemB K w m E) : E.length ≤ 1000000 := by
  obtain ⟨r, nv, L, h1, rfl⟩ := h
  rw [mapO_len]
  exact h1.few
theorem MemB.kb (h : MemB K w m E) : ∀ g, K g → g < w.heap.size := by
  obtain ⟨r, nv, L, h1, h2⟩ := h
  exact h1.kb
theorem Keeps.trans {a b c : World} (h : Keeps K a b) (k : Keeps K b c) : Keeps K a c := Only.trans h k
theorem Keeps.refl (K : Nat → Prop) (w : World) : Keeps K w w := Only.refl _ _
theorem Keeps.of_below (h : Below w.heap.size w w') : Keeps K w w' := ⟨h.os, h.tape, h.output, h.size, fun k hk _ => h.block k hk⟩
theorem Keeps.below {B : Nat} (h : Keeps K w w') (hB : ∀ g, g < B → K g) (hs : B ≤ w.heap.size) : Below B w w' := ⟨h.os, h.tape, h.output, h.size, fun k hk => h.block k (Nat.lt_of_lt_of_le hk hs) fun hn => hn (hB k hk)⟩
theorem Keeps.mono {K' : Nat → Prop} (h : Keeps K w w') (hk : ∀ g, K' g → K g) : Keeps K' w w' := ⟨h.os, h.tape, h.output, h.size, fun k hk' hn => h.block k hk' fun hc => hn fun hg => hc (hk k hg)⟩
theorem Keeps.cell (h : Keeps K w w') {p : Addr} (h1 : K p.block) (h2 : p.block < w.heap.size) : w'.cell? p = w.cell? p := Only.cell h h2 (fun hn => hn h1)
theorem Keeps.frozen (h : Keeps K w w') {p : Addr} (h1 : K p.block) (h2 : p.block < w.heap.size) : w'.frozen? p = w.frozen? p := Only.frozen h h2 (fun hn => hn h1)
theorem Keeps.own {base n : Nat} {e : TypeId} {v : Value} {xs : List Value} (h : Keeps K w w') (ho : w.ownsRow base e 1 v n xs) (hK : ∀ g, v.ownBlock = some g → K g) : w'.ownsRow base e 1 v n xs := own_only ho h fun g hg hn => hn (hK g hg)
end
theorem ids_w64 {α : Type} {L : List (Option α)} (h : L.length ≤ 1000000) : ∀ i ∈ ids L, W64 i := fun i hi => by
  have := ids_rng hi
  exact w64_of (by omega) (by omega)
theorem MemR.len {w : World} {K : Nat → Prop} {m : Nat} {r : Option Nat} {nv : Value} {L : List (Option En)} (h : MemR w K m r nv L) (ty : TypeId) : (Builtin.len_ #[73] ty #[.map r]).run Try.prog w = .ok (.int .i64 (ids L).length) w :=
  h.mp.len (ids L) (ids_nodup L) (ids_w64 h.few) (fun i _ => by rw [mem_ids]; cases at_ L i <;> simp) ty
end Go.Proofs.Ytmaeoefimkppoaa.Fl

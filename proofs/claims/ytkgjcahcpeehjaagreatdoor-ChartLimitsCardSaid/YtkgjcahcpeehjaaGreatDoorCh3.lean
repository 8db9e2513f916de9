/-
  Package chart, its small parts; what it makes, in memory.
-/
import Derived.Test.YtkgjcahcpeehjaaGreatDoorCh1
import Derived.Test.YtkgjcahcpeehjaaGreatDoorPol6
import Derived.Test.YtkgjcahcpeehjaaGreatDoorSh5
import Derived.BigQuiet
import Derived.Test.YtkgjcahcpeehjaaGreatDoorOwnI
import Derived.Deep.AppendLies
namespace Go.Proofs.YtkgjcahcpeehjaaGreatDoor
set_option maxRecDepth 100000
open Go.ChangeShapes Go.WideShapes Go.ChangeAt Go.RowKit

theorem stays_any (k : Int) (w : World) : Calls Tryz.prog 144 #[.int .i64 k] w fun e w' => e = .returned (.bool (stayB k)) ∧ w = w' := by
  by_cases h1 : k = 1
  · subst h1
    go_enter Tryz.func144, Tryz.ntmps144
    go_wp2
    go_ret
    exact ⟨rfl, rfl⟩
  · have g1 : (k == 1) = false := beq_eq_false_iff_ne.2 h1
    have HE : Hid (stayB k = (k == 2)) := by show _ = _; unfold stayB; rw [g1]; rfl
    clear h1
    go_enter Tryz.func144, Tryz.ntmps144
    go_wp2
    go_ret
    exact ⟨ret_bool HE.out.symm, rfl⟩
set_option maxHeartbeats 1000000 in
theorem mayStand_any (ks : List Int) (A B : Option Addr) (n c m d : Nat) (kind p : Int) (w : World) (h : IntsAt w (.slice A n c) ks) (hn : n = ks.length) (hn2 : n ≤ 24) (hp : -1 ≤ p ∧ p < n) :
    Calls Tryz.prog 175 #[.agg #[.slice A n c, .slice B m d], .int .i64 kind, .int .i64 p] w fun e w' => e = .returned (.bool (standB ks kind p)) ∧ Below w.heap.size w w' := by
  have x0 := box_0 w 51 (.slice A n c) (.slice B m d)
  have hz := box_b w (.cells #[.slice A n c, .slice B m d] 51)
  have hi := h.below hz
  have HZ := Lib.hid hz
  have ST := Lib.hid (fun k W => stays_any k W)
  have HD : Hid (standB ks kind p = if stayB kind then p == -1 || stayB (ks.getD p.toNat 0) else p != -1 && ks.getD p.toNat 0 == 1) := rfl
  clear h hz
  by_cases hp1 : p = -1
  · subst hp1
    cases hk : stayB kind
    · have HE : Hid (standB ks kind (-1) = false) := by show _ = _; rw [HD.out, hk]; rfl
      have SK := Lib.hid (fun W => stays_any kind W)
      rw [hk] at SK
      clear hk HD hi ST hn hp
      go_enter Tryz.func175, Tryz.ntmps175
      go_wp2_with (go_at_call 144; refine (SK.out _).mono ?_; rintro e w2 ⟨rfl, rfl⟩)
      go_ret
      exact ⟨ret_bool HE.out.symm, HZ.out⟩
    · have HE : Hid (standB ks kind (-1) = true) := by show _ = _; rw [HD.out, hk]; rfl
      have SK := Lib.hid (fun W => stays_any kind W)
      rw [hk] at SK
      clear hk HD hi ST hn hp
      go_enter Tryz.func175, Tryz.ntmps175
      go_wp2_with (go_at_call 144; refine (SK.out _).mono ?_; rintro e w2 ⟨rfl, rfl⟩)
      go_ret
      exact ⟨ret_bool HE.out.symm, HZ.out⟩
  · obtain ⟨q, rfl⟩ : ∃ q : Nat, p = q := ⟨p.toNat, by omega⟩
    have hq : q < ks.length := by omega
    have hqn : (q : Int) < n := by omega
    obtain ⟨b, off, rfl, hb, hx, _⟩ := ints_cell hi (k := q) hq
    rw [Int.toNat_natCast] at HD
    generalize ks.getD q 0 = x at *
    have g1 : ((q : Int) == -1) = false := beq_eq_false_iff_ne.2 hp1
    have g2 : ((q : Int) != -1) = true := by simp [bne, g1]
    have hq0 : (0 : Int) ≤ q := by omega
    clear hn
    cases hk : stayB kind
    · have HE : Hid (standB ks kind q = (x == 1)) := by show _ = _; rw [HD.out, hk, g2]; rfl
      have SK := Lib.hid (fun W => stays_any kind W)
      rw [hk] at SK
      clear hk HD hi ST hp hq
      go_enter Tryz.func175, Tryz.ntmps175
      go_wp2_with (go_at_call 144; refine (SK.out _).mono ?_; rintro e w2 ⟨rfl, rfl⟩)
      go_ret
      exact ⟨ret_bool HE.out.symm, HZ.out⟩
    · have HE : Hid (standB ks kind q = stayB x) := by show _ = _; rw [HD.out, hk, g1]; rfl
      have SK := Lib.hid (fun W => stays_any kind W)
      rw [hk] at SK
      have SX := Lib.hid (fun W => stays_any x W)
      clear hk HD hi ST hp hq
      go_enter Tryz.func175, Tryz.ntmps175
      go_wp2_with (first
        | (go_at_call_of 144 (Value.int .i64 kind); refine (SK.out _).mono ?_; rintro e w2 ⟨rfl, rfl⟩)
        | (go_at_call 144; refine (SX.out _).mono ?_; rintro e w2 ⟨rfl, rfl⟩))
      go_ret
      exact ⟨ret_bool HE.out.symm, HZ.out⟩

/-! ### the place of a state's rule -/
abbrev rl11 (x : RL) : Value := .agg #[.int .i64 x.1.kind, .string (bs x.1.name), x.2.2, .int .i64 x.1.n, .int .i64 x.1.m, .string (bs x.1.from_), .string (bs x.1.to_), .string (bs x.1.by_), .string (bs x.1.task), .string (bs x.1.in_), .int .i64 x.2.1]
theorem cloF_any (kd : Int) (nm : Tx) (L : Value) (rn rm : Int) (rf rt rb ra ri : Tx) (ln : Int) (y : Tx) (b : Nat) (w : World) (hb : b < w.heap.size) (hc : w.cell? ⟨b, 0, none⟩ = some (.string (bs y))) (hL : ∃ A n c, L = .slice A n c) :
    Calls Tryz.prog 190 #[.agg #[.int .i64 kd, .string (bs nm), L, .int .i64 rn, .int .i64 rm, .string (bs rf), .string (bs rt), .string (bs rb), .string (bs ra), .string (bs ri), .int .i64 ln], .pointer (some ⟨b, 0, none⟩)] w fun e w' => e = .returned (.bool (nm == y)) ∧ Below w.heap.size w w' := by
  obtain ⟨A, n, c, rfl⟩ := hL
  have HE := Lib.hid (beq_tx nm y)
  have R := heap_alloc_new w (.cells #[.int .i64 kd, .string (bs nm), .slice A n c, .int .i64 rn, .int .i64 rm, .string (bs rf), .string (bs rt), .string (bs rb), .string (bs ra), .string (bs ri), .int .i64 ln] 24)
  have x0 : (w.alloc (.cells #[.int .i64 kd, .string (bs nm), .slice A n c, .int .i64 rn, .int .i64 rm, .string (bs rf), .string (bs rt), .string (bs rb), .string (bs ra), .string (bs ri), .int .i64 ln] 24)).cell? ⟨b, 0, none⟩ = some (.string (bs y)) := (World.cell?_alloc_lt _ _ _ hb).trans hc
  have x1 := row_q1 R
  have HZ := Lib.hid (box_b w (.cells #[.int .i64 kd, .string (bs nm), .slice A n c, .int .i64 rn, .int .i64 rm, .string (bs rf), .string (bs rt), .string (bs rb), .string (bs ra), .string (bs ri), .int .i64 ln] 24))
  clear R hc
  go_enter Tryz.func190, Tryz.ntmps190
  go_wp2
  go_ret
  exact ⟨ret_bool HE.out, HZ.out⟩
def nmR (acc : List RL) : List Tx := acc.map (·.1.name)
theorem nmR_er (acc : List RL) : nmR acc = nmS (acc.map er) := by simp [nmR, nmS, er]
/-- rules in a block's cells, whatever their lists -/
def RI2 (w : World) (A : Option Addr) (acc : List RL) : Prop := ∀ j (h : j < acc.length), ∃ g, A = some ⟨g, 0, none⟩ ∧ g < w.heap.size ∧ (∀ f u, f < 11 → (rcell acc[j])[f]? = some u → w.cell? ⟨g, j * 11 + f, none⟩ = some u) ∧ ∃ B n c, acc[j].2.2 = .slice B n c
theorem RI2.below {w w' : World} {A : Option Addr} {acc : List RL} (h : RI2 w A acc) (hb : Below w.heap.size w w') : RI2 w' A acc := fun j hj =>
  let ⟨g, e, hl, hc, q⟩ := h j hj
  ⟨g, e, Nat.lt_of_lt_of_le hl hb.size, fun f u hf hu => (hb.cell (p := ⟨g, j * 11 + f, none⟩) hl).trans (hc f u hf hu), q⟩
theorem rI2_of {w : World} {base cap : Nat} {A : Option Addr} {acc : List RL} (h : w.ownsRow base 24 11 (.slice A acc.length cap) acc.length (rcells acc)) (hs : ∀ x ∈ acc, ∃ B n c, x.2.2 = .slice B n c) : RI2 w A acc := fun j hj => by
  obtain ⟨g, cap', e, _, hl, _, hc⟩ := own_form h (by omega)
  have eA : A = some ⟨g, 0, none⟩ := by injection e
  exact ⟨g, eA, hl, fun f u hf hu => hc _ _ (by rw [rcells_at acc j f hj hf]; exact hu), hs _ (List.getElem_mem hj)⟩
set_option maxHeartbeats 2000000 in
theorem IdxRule_any (acc : List RL) (y : Tx) (A : Option Addr) (c b : Nat) (w : World) (hR : RI2 w A acc) (ha : acc.length ≤ 1000) (hac : acc.length ≤ c) (hb : b < w.heap.size) (hc : w.cell? ⟨b, 0, none⟩ = some (.string (bs y))) :
    Calls Tryz.prog 189 #[.slice A acc.length c, .func (.func 190) #[] #[.pointer (some ⟨b, 0, none⟩)]] w fun e w' => e = .returned (.int .i64 (idxI (nmR acc) y)) ∧ Below w.heap.size w w' := by
  have HR := Lib.hid hR
  have hnl : (nmR acc).length = acc.length := by simp [nmR]
  clear hR
  go_enter Tryz.func189, Tryz.ntmps189
  go_wp2
  go_loopw [5, 8] (fun _ i wr => ∃ k : Nat, k ≤ acc.length ∧ i = .int .i64 k ∧ Hid (Below w.heap.size w wr) ∧ Hid (y ∉ (nmR acc).take k)) (fun _ i _ => acc.length - (intOf i).toNat)
  case atStart => exact ⟨0, Nat.zero_le _, rfl, Below.refl _ _, by show ¬ _; simp⟩
  case round =>
    obtain ⟨k, hk, rfl, HB, HI⟩ := hrel
    by_cases hlt : k < acc.length
    · obtain ⟨g, rfl, hgl, hcs, B, n2, c2, e2⟩ := (HR.out.below HB.out) k hlt
      have hb2 : b < wr.heap.size := Nat.lt_of_lt_of_le hb HB.out.size
      have hc2 := (HB.out.cell (p := ⟨b, 0, none⟩) hb).trans hc
      have hgk : (nmR acc)[k]'(by omega) = acc[k].1.name := by simp [nmR]
      have HH : Hid (acc[k].1.name = y → idxI (nmR acc) y = k) := fun e => by
        have hm : y ∈ nmR acc := by rw [← e, ← hgk]; exact List.getElem_mem _
        unfold idxI
        rw [if_pos hm, idxOf_at (by omega) (by rw [hgk]; exact e.symm) HI.out]
      have HT : Hid (acc[k].1.name ≠ y → y ∉ (nmR acc).take (k + 1)) := fun e hm => by
        rw [List.take_succ_eq_append_getElem (by omega : k < (nmR acc).length), List.mem_append, List.mem_singleton, hgk] at hm
        rcases hm with h | h
        · exact HI.out h
        · exact e h.symm
      have q := fun f u hf hu => hcs f u hf hu
      clear hcs hgk HI
      generalize acc[k] = x at *
      obtain ⟨⟨kd, nm, l, rn, rm, rf, rt, rb, ra, ri⟩, ln, L⟩ := x
      obtain rfl : L = .slice B n2 c2 := e2
      have q0 := q 0 _ (by omega) rfl; have q1 := q 1 _ (by omega) rfl; have q2 := q 2 _ (by omega) rfl; have q3 := q 3 _ (by omega) rfl; have q4 := q 4 _ (by omega) rfl; have q5 := q 5 _ (by omega) rfl; have q6 := q 6 _ (by omega) rfl; have q7 := q 7 _ (by omega) rfl; have q8 := q 8 _ (by omega) rfl; have q9 := q 9 _ (by omega) rfl; have q10 := q 10 _ (by omega) rfl
      simp only [Nat.add_zero] at q0
      have CL := Lib.hid (cloF_any kd nm (.slice B n2 c2) rn rm rf rt rb ra ri ln y b wr hb2 hc2 ⟨_, _, _, rfl⟩)
      clear q hc2 hb2
      simp only at HH HT
      by_cases hq : nm = y
      · have HE := Lib.hid (HH.out hq)
        rw [beq_iff_eq.2 hq] at CL
        clear hq HH HT
        go_wp2_with (go_at_call 190; refine CL.out.mono ?_; rintro e w2 ⟨rfl, hb2⟩)
        go_ret
        exact ⟨ret_int HE.out.symm, below_then HB.out hb2 HB.out.size⟩
      · have HT2 := Lib.hid (HT.out hq)
        rw [beq_eq_false_iff_ne.2 hq] at CL
        clear hq HH HT
        go_wp2_with (go_at_call 190; refine CL.out.mono ?_; rintro e w2 ⟨rfl, hb2⟩)
        have HB2 := Lib.hid (below_then HB.out hb2 HB.out.size)
        go_roundw
        case rel => exact ⟨k + 1, by omega, by go_num, HB2, HT2⟩
        case measure => simp [intOf]; omega
    · have HE : Hid (idxI (nmR acc) y = -1) := by
        have := HI.out
        rw [List.take_of_length_le (by omega)] at this
        show _ = _
        unfold idxI; rw [if_neg this]
      clear HI
      go_wp2
      go_ret
      exact ⟨ret_int HE.out.symm, HB.out⟩
theorem find_any (acc : List RL) (y : Tx) (A : Option Addr) (c b : Nat) (w : World) (hR : RI2 w A acc) (ha : acc.length ≤ 1000) (hac : acc.length ≤ c) (hb : b < w.heap.size) (hc : w.cell? ⟨b, 4, none⟩ = some (.slice A acc.length c)) :
    Calls Tryz.prog 176 #[.pointer (some ⟨b, 0, none⟩), .string (bs y)] w fun e w' => e = .returned (.int .i64 (idxI (nmS (acc.map er)) y)) ∧ Below w.heap.size w w' := by
  have R := heap_alloc_new w (.cells #[.string (bs y)] 9)
  have hbz := box_b w (.cells #[.string (bs y)] 9)
  have IX := Lib.hid (IdxRule_any acc y A c w.heap.size (w.alloc (.cells #[.string (bs y)] 9)) (hR.below hbz) ha hac (by simp) (by rw [cell_of_row _ _ _ _ _ _ R]; rfl))
  rw [nmR_er] at IX
  have HB := Lib.hid hbz
  have x4 := (World.cell?_alloc_lt w (.cells #[.string (bs y)] 9) ⟨b, 4, none⟩ hb).trans hc
  have hmf : ∀ (fn : Fn) (first cap : Array Value) (w : World), (Instr.makeFunc fn first cap).run Tryz.prog w = .ok (.func fn first cap) w := fun _ _ _ _ => rfl
  clear hR R hbz hc
  go_enter Tryz.func176, Tryz.ntmps176
  go_wp2_with (go_at_call 189; refine IX.out.mono ?_; rintro e w2 ⟨rfl, hb2⟩)
  go_ret
  exact ⟨rfl, below_then HB.out hb2 HB.out.size⟩
end Go.Proofs.YtkgjcahcpeehjaaGreatDoor
namespace Go.Proofs.YtkgjcahcpeehjaaGreatDoor
set_option maxRecDepth 100000
open Go.ChangeShapes Go.WideShapes Go.ChangeAt Go.RowKit

def tcell (t : Tr) : List Value := [.int .i64 t.kind, .int .i64 t.from_, .int .i64 t.to_, .string (bs t.event), .string (bs t.perm), .string (bs t.task), .int .i64 t.time]
def tcells (l : List Tr) : List Value := l.flatMap tcell
theorem tcells_snoc (l : List Tr) (t : Tr) : tcells (l ++ [t]) = tcells l ++ tcell t := by simp [tcells]
def OwnT (w : World) (base : Nat) (v : Value) (l : List Tr) : Prop := w.ownsRow base 66 7 v l.length (tcells l)
theorem Tryz.infoTrans : (Tryz.prog.info? 66).map (fun i => (i.zero, i.size, i.bytes)) = some (some (.agg #[.int .i64 0, .int .i64 0, .int .i64 0, .string ⟨#[]⟩, .string ⟨#[]⟩, .string ⟨#[]⟩, .int .i64 0]), 7, 80) := by kernel_rfl
/-- a row does not lie where a block of another type lies -/
theorem own_row_ne {w : World} {base e s n b : Nat} {v : Value} {xs : List Value} {cs : Array Value} {t : TypeId} {fz : Nat × Nat} (h : w.ownsRow base e s v n xs) (r : w.heap[b]? = some (.cells cs t fz)) (hne : t ≠ e) : v.ownBlock ≠ some b := by
  rcases h.2 with ⟨hv, _⟩ | ⟨g, cap, cur, hv, _, hg, _⟩
  · rw [hv]; simp [Value.ownBlock]
  · rw [hv]
    intro e2
    have e3 : g = b := by simpa [Value.ownBlock] using e2
    subst e3
    rw [hg] at r
    simp only [Option.some.injEq, Obj.cells.injEq] at r
    exact hne r.2.1.symm
theorem rows_unlike {w : World} {b1 b2 e1 e2 s1 s2 n1 n2 : Nat} {v1 v2 : Value} {xs1 xs2 : List Value} (h : w.ownsRow b1 e1 s1 v1 n1 xs1) (h' : w.ownsRow b2 e2 s2 v2 n2 xs2) (hne : e1 ≠ e2) : v1.ownBlock = none ∨ v1.ownBlock ≠ v2.ownBlock := by
  rcases h'.2 with ⟨hv', _⟩ | ⟨g', cap', cur', hv', _, hg', _⟩
  · rcases h.2 with ⟨hv, _⟩ | ⟨g, cap, cur, hv, _, hg, _⟩
    · left; rw [hv]; rfl
    · right; rw [hv, hv']; simp [Value.ownBlock]
  · right
    rw [hv']
    exact own_row_ne h hg' (fun e => hne e.symm)
/-- the builder: what it has made, all of it in blocks of the call's own -/
structure BA (w0 W : World) (b : Nat) (acc : List RL) (c : Ch) (vN vK vP vT vS : Value) : Prop where
  row : W.heap[b]? = some (.cells #[vN, vK, vP, vT, vS] 136 (0, 0))
  lo : w0.heap.size ≤ b
  oN : OwnL W w0.heap.size vN c.names
  oK : OwnI W w0.heap.size vK c.kinds
  oP : OwnI W w0.heap.size vP c.parents
  ap : ∀ g, vK.ownBlock = some g → vP.ownBlock = some g → False
  oT : OwnT W w0.heap.size vT c.trans
  oS : W.ownsRow w0.heap.size 24 11 vS acc.length (rcells acc)
  ls : ∀ x ∈ acc, ∃ B n c, x.2.2 = .slice B n c
  be : Below w0.heap.size w0 W
section
variable {w0 W W1 : World} {b : Nat} {acc : List RL} {c : Ch} {vN vK vP vT vS : Value}
theorem BA.lt (R : BA w0 W b acc c vN vK vP vT vS) : b < W.heap.size := (Array.getElem?_eq_some_iff.1 R.row).1
theorem BA.below (R : BA w0 W b acc c vN vK vP vT vS) (hb : Below W.heap.size W W1) : BA w0 W1 b acc c vN vK vP vT vS where
  row := (hb.block _ R.lt).trans R.row
  lo := R.lo
  oN := own_below R.oN hb R.be.size
  oK := own_below R.oK hb R.be.size
  oP := own_below R.oP hb R.be.size
  ap := R.ap
  oT := own_below R.oT hb R.be.size
  oS := own_below R.oS hb R.be.size
  ls := R.ls
  be := below_then R.be hb R.be.size
theorem BA.q0 (R : BA w0 W b acc c vN vK vP vT vS) : W.cell? ⟨b, 0, none⟩ = some vN := by rw [cell_of_row _ _ _ _ _ _ R.row]; rfl
theorem BA.q1 (R : BA w0 W b acc c vN vK vP vT vS) : W.cell? ⟨b, 1, none⟩ = some vK := by rw [cell_of_row _ _ _ _ _ _ R.row]; rfl
theorem BA.q2 (R : BA w0 W b acc c vN vK vP vT vS) : W.cell? ⟨b, 2, none⟩ = some vP := by rw [cell_of_row _ _ _ _ _ _ R.row]; rfl
theorem BA.q3 (R : BA w0 W b acc c vN vK vP vT vS) : W.cell? ⟨b, 3, none⟩ = some vT := by rw [cell_of_row _ _ _ _ _ _ R.row]; rfl
theorem BA.q4 (R : BA w0 W b acc c vN vK vP vT vS) : W.cell? ⟨b, 4, none⟩ = some vS := by rw [cell_of_row _ _ _ _ _ _ R.row]; rfl
theorem keep2 {base e s n : Nat} {v : Value} {xs : List Value} {row : Option Nat} {cs : Array Value} {t : TypeId} {fz : Nat × Nat} (h : W.ownsRow base e s v n xs) (hg : W.grownBy W1 row) (hu : v.ownBlock = none ∨ v.ownBlock ≠ row) (r1 : W1.heap[b]? = some (.cells cs t fz)) (hne : t ≠ e) (j : Nat) (x : Value) :
    (W1.setCell ⟨b, j, none⟩ x).ownsRow base e s v n xs :=
  World.ownsRow.kept (World.ownsRow.kept h hg hu) (grown_setCell _ _ _ _) (.inr (own_row_ne (World.ownsRow.kept h hg hu) r1 hne))
theorem put2 {base e s n : Nat} {v : Value} {xs : List Value} {cs : Array Value} {t : TypeId} {fz : Nat × Nat} (h : W1.ownsRow base e s v n xs) (r1 : W1.heap[b]? = some (.cells cs t fz)) (hne : t ≠ e) (j : Nat) (x : Value) :
    (W1.setCell ⟨b, j, none⟩ x).ownsRow base e s v n xs := World.ownsRow.kept h (grown_setCell _ _ _ _) (.inr (own_row_ne h r1 hne))
theorem BA.row1 (R : BA w0 W b acc c vN vK vP vT vS) {row : Option Nat} (hg : W.grownBy W1 row) (hne : row ≠ some b) : W1.heap[b]? = some (.cells #[vN, vK, vP, vT, vS] 136 (0, 0)) :=
  (hg.block b R.lt (fun e => hne e.symm)).trans R.row
theorem BA.be1 (R : BA w0 W b acc c vN vK vP vT vS) {row : Option Nat} (hg : W.grownBy W1 row) (hlo : ∀ g, row = some g → w0.heap.size ≤ g) (j : Nat) (v : Value) : Below w0.heap.size w0 (W1.setCell ⟨b, j, none⟩ v) :=
  (R.be.grown hg R.be.size hlo).grown (grown_setCell _ _ _ _) (R.be.grown hg R.be.size hlo).size (fun g e => by cases e; exact R.lo)
theorem ap_cases {o1 o2 : Option Nat} (h : ∀ g, o1 = some g → o2 = some g → False) : o1 = none ∨ o1 ≠ o2 := by
  cases o1 with
  | none => exact .inl rfl
  | some g => exact .inr fun e => h g rfl e.symm
theorem BA.names (R : BA w0 W b acc c vN vK vP vT vS) {v' : Value} {x : Tx} (hg : W.grownBy W1 vN.ownBlock) (ho : OwnL W1 w0.heap.size v' (c.names ++ [x])) :
    BA w0 (W1.setCell ⟨b, 0, none⟩ v') b acc { c with names := c.names ++ [x] } v' vK vP vT vS := by
  have r1 := R.row1 hg (own_row_ne R.oN R.row (by decide))
  exact ⟨heap_set (j := 0) r1 v', R.lo, put2 ho r1 (by decide) _ _, keep2 R.oK hg (rows_unlike R.oK R.oN (by decide)) r1 (by decide) _ _, keep2 R.oP hg (rows_unlike R.oP R.oN (by decide)) r1 (by decide) _ _, R.ap,
    keep2 R.oT hg (rows_unlike R.oT R.oN (by decide)) r1 (by decide) _ _, keep2 R.oS hg (rows_unlike R.oS R.oN (by decide)) r1 (by decide) _ _, R.ls, R.be1 hg (fun g e => (World.ownsRow.lt R.oN g e).1) _ _⟩
theorem BA.kinds (R : BA w0 W b acc c vN vK vP vT vS) {v' : Value} {x : Int} (hg : W.grownBy W1 vK.ownBlock) (ho : OwnI W1 w0.heap.size v' (c.kinds ++ [x])) (hk : ∀ g, v'.ownBlock = some g → vK.ownBlock = some g ∨ W.heap.size ≤ g) :
    BA w0 (W1.setCell ⟨b, 1, none⟩ v') b acc { c with kinds := c.kinds ++ [x] } vN v' vP vT vS := by
  have r1 := R.row1 hg (own_row_ne R.oK R.row (by decide))
  refine ⟨heap_set (j := 1) r1 v', R.lo, keep2 R.oN hg (rows_unlike R.oN R.oK (by decide)) r1 (by decide) _ _, put2 ho r1 (by decide) _ _, keep2 R.oP hg (ap_cases fun g e1 e2 => R.ap g e2 e1) r1 (by decide) _ _, ?_,
    keep2 R.oT hg (rows_unlike R.oT R.oK (by decide)) r1 (by decide) _ _, keep2 R.oS hg (rows_unlike R.oS R.oK (by decide)) r1 (by decide) _ _, R.ls, R.be1 hg (fun g e => (World.ownsRow.lt R.oK g e).1) _ _⟩
  intro g e1 e2
  rcases hk g e1 with h | h
  · exact R.ap g h e2
  · have := (World.ownsRow.lt R.oP g e2).2; omega
theorem BA.parents (R : BA w0 W b acc c vN vK vP vT vS) {v' : Value} {x : Int} (hg : W.grownBy W1 vP.ownBlock) (ho : OwnI W1 w0.heap.size v' (c.parents ++ [x])) (hk : ∀ g, v'.ownBlock = some g → vP.ownBlock = some g ∨ W.heap.size ≤ g) :
    BA w0 (W1.setCell ⟨b, 2, none⟩ v') b acc { c with parents := c.parents ++ [x] } vN vK v' vT vS := by
  have r1 := R.row1 hg (own_row_ne R.oP R.row (by decide))
  refine ⟨heap_set (j := 2) r1 v', R.lo, keep2 R.oN hg (rows_unlike R.oN R.oP (by decide)) r1 (by decide) _ _, keep2 R.oK hg (ap_cases R.ap) r1 (by decide) _ _, put2 ho r1 (by decide) _ _, ?_,
    keep2 R.oT hg (rows_unlike R.oT R.oP (by decide)) r1 (by decide) _ _, keep2 R.oS hg (rows_unlike R.oS R.oP (by decide)) r1 (by decide) _ _, R.ls, R.be1 hg (fun g e => (World.ownsRow.lt R.oP g e).1) _ _⟩
  intro g e1 e2
  rcases hk g e2 with h | h
  · exact R.ap g e1 h
  · have := (World.ownsRow.lt R.oK g e1).2; omega
theorem BA.trans (R : BA w0 W b acc c vN vK vP vT vS) {v' : Value} {x : Tr} (hg : W.grownBy W1 vT.ownBlock) (ho : OwnT W1 w0.heap.size v' (c.trans ++ [x])) :
    BA w0 (W1.setCell ⟨b, 3, none⟩ v') b acc { c with trans := c.trans ++ [x] } vN vK vP v' vS := by
  have r1 := R.row1 hg (own_row_ne R.oT R.row (by decide))
  exact ⟨heap_set (j := 3) r1 v', R.lo, keep2 R.oN hg (rows_unlike R.oN R.oT (by decide)) r1 (by decide) _ _, keep2 R.oK hg (rows_unlike R.oK R.oT (by decide)) r1 (by decide) _ _, keep2 R.oP hg (rows_unlike R.oP R.oT (by decide)) r1 (by decide) _ _, R.ap,
    put2 ho r1 (by decide) _ _, keep2 R.oS hg (rows_unlike R.oS R.oT (by decide)) r1 (by decide) _ _, R.ls, R.be1 hg (fun g e => (World.ownsRow.lt R.oT g e).1) _ _⟩
end
end Go.Proofs.YtkgjcahcpeehjaaGreatDoor

/-
  ChartLimits: the plain rules; the walk.
-/
import Derived.Test.YtkgjcahcpeehjaaGreatDoorCh7
import Derived.Test.YtkgjcahcpeehjaaGreatDoorPol6
import Derived.Test.YtkgjcahcpeehjaaGreatDoorDigits
import Derived.Test.YtkgjcahcpeehjaaGreatDoorOwn
import Derived.Test.YtkgjcahcpeehjaaGreatDoorCh9
import Derived.Test.YtkgjcahcpeehjaaGreatDoorKeepAt
namespace Go.Proofs.YtkgjcahcpeehjaaGreatDoor
set_option maxRecDepth 100000

def sameB (s r : Ru) : Bool := decide (s.kind = r.kind) && decide (s.name = r.name) && decide (s.list = r.list) && decide (s.n = r.n) && decide (s.m = r.m) && decide (s.from_ = r.from_) && decide (s.to_ = r.to_) && decide (s.by_ = r.by_) && decide (s.task = r.task) && decide (s.in_ = r.in_)
theorem sameB_eq {s r : Ru} (h : sameB s r = true) : s = r := by
  obtain ⟨a1, a2, a3, a4, a5, a6, a7, a8, a9, a10⟩ := s
  obtain ⟨b1, b2, b3, b4, b5, b6, b7, b8, b9, b10⟩ := r
  simp only [sameB, Bool.and_eq_true, decide_eq_true_eq] at h
  obtain ⟨⟨⟨⟨⟨⟨⟨⟨⟨rfl, rfl⟩, rfl⟩, rfl⟩, rfl⟩, rfl⟩, rfl⟩, rfl⟩, rfl⟩, rfl⟩ := h
  rfl
def okIs (p : PR) (r : Ru) : Bool := match p with
  | .ok s => sameB s r
  | _ => false
theorem print_of {r : Ru} (h : okIs (parseL (joinP (lineP r))) r = true) : printP r ≠ none ∧ RuF r := by
  cases hp : parseL (joinP (lineP r)) with
  | bad c k => rw [hp] at h; cases h
  | empty => rw [hp] at h; cases h
  | ok s =>
    rw [hp] at h
    have e : s = r := sameB_eq h
    subst e
    rw [printP_some.2 ⟨rfl, hp⟩]
    exact ⟨by simp, parse_fields hp⟩
def nmC (i : Nat) : Tx := [115, byteOf (97 + i % 26), byteOf (97 + i / 26)]
def stR (i : Nat) : Ru := { kind := 8, name := nmC i, n := 1 }
def auR : Ru := { kind := 10, from_ := [115, 97, 97], to_ := [115, 98, 97] }
def stsL (n : Nat) : List (Ru × Nat) := (List.range n).map fun i => (stR i, 1 + i)
def limL (n m : Nat) : List (Ru × Nat) := stsL n ++ (List.range m).map fun i => (auR, 100 + i)
theorem st_all : ((List.range 26).all fun i => okIs (parseL (joinP (lineP (stR i)))) (stR i)) = true := by decide +kernel
theorem st_ok8 {i : Nat} (h : i < 26) : printP (stR i) ≠ none ∧ RuF (stR i) := print_of (List.all_eq_true.1 st_all i (List.mem_range.2 h))
theorem au_ok : printP auR ≠ none ∧ RuF auR := print_of (by decide +kernel)
theorem lim_ok {n m : Nat} (hn : n ≤ 26) : ∀ x ∈ limL n m, printP x.1 ≠ none ∧ RuF x.1 := by
  intro x hx
  rcases List.mem_append.1 hx with h | h
  · obtain ⟨i, hi, rfl⟩ := List.mem_map.1 h
    exact st_ok8 (by have := List.mem_range.1 hi; omega)
  · obtain ⟨i, hi, rfl⟩ := List.mem_map.1 h
    exact au_ok
def isBad (p : ChR) (l : Nat) (k : Int) : Bool := match p with
  | .bad a b => decide (a = l) && decide (b = k)
  | _ => false
theorem isBad_eq {p : ChR} {l : Nat} {k : Int} (h : isBad p l k = true) : p = .bad l k := by
  cases p with
  | bad a b =>
    simp only [isBad, Bool.and_eq_true, decide_eq_true_eq] at h
    rw [h.1, h.2]
  | arg => cases h
  | none => cases h
  | ok c => cases h
def isLen (p : ChR) (n m : Nat) : Bool := match p with
  | .ok c => decide (c.names.length = n) && decide (c.trans.length = m)
  | _ => false
theorem isLen_ok {p : ChR} {n m : Nat} (h : isLen p n m = true) : ∃ c, p = .ok c ∧ c.names.length = n ∧ c.trans.length = m := by
  cases p with
  | ok c =>
    simp only [isLen, Bool.and_eq_true, decide_eq_true_eq] at h
    exact ⟨c, rfl, h.1, h.2⟩
  | arg => cases h
  | none => cases h
  | bad a b => cases h
theorem lim_states {n m : Nat} (hn : n = 25) (hm : m = 47 ∨ m = 48 ∨ m = 49) : compL (limL n m) = .bad 25 5 := by
  subst hn
  rcases hm with rfl | rfl | rfl <;> exact isBad_eq (by decide +kernel)
theorem lim_trans {n : Nat} (hn : n = 23 ∨ n = 24) : compL (limL n 49) = .bad 148 5 := by
  rcases hn with rfl | rfl <;> exact isBad_eq (by decide +kernel)
theorem lim_none {n m : Nat} (hn : n = 23 ∨ n = 24) (hm : m = 47 ∨ m = 48) : ∃ c, compL (limL n m) = .ok c ∧ c.names.length = n ∧ c.trans.length = m := by
  rcases hn with rfl | rfl <;> rcases hm with rfl | rfl <;> exact isLen_ok (by decide +kernel)
theorem wake_none : compL [] = .none := by
  have h : valB ({} : Ch).kinds ({} : Ch).parents = false := by decide +kernel
  unfold compL
  rw [takeL, if_neg (by rw [h]; decide)]
def oneR : Ru := { kind := 8, name := [115], n := 1 }
theorem one_ok : printP oneR ≠ none ∧ RuF oneR := print_of (by decide +kernel)
theorem wake_one : ∃ c, compL [(oneR, 1)] = .ok c ∧ c.names.length = 1 ∧ c.trans.length = 0 := isLen_ok (by decide +kernel)
end Go.Proofs.YtkgjcahcpeehjaaGreatDoor
namespace Go.Proofs.YtkgjcahcpeehjaaGreatDoor
set_option maxRecDepth 100000
open Go.ChangeShapes Go.WideShapes Go.ChangeAt Go.RowKit

theorem conv_two (W : World) (b cap : Nat) (c d : Int) (h0 : 0 ≤ c) (h1 : c ≤ 255) (h2 : 0 ≤ d) (h3 : d ≤ 255) (hc : W.cell? ⟨b, 0, none⟩ = some (.int .u8 c)) (hd : W.cell? ⟨b, 1, none⟩ = some (.int .u8 d)) :
    (convert 70 9 (.slice (some ⟨b, 0, none⟩) 2 cap)).run Tryz.prog W = .ok (.string (bs [byteOf c.toNat, byteOf d.toNat])) W := by
  have := run_convert_bytes_back (P := Tryz.prog) W 70 9 5 ⟨b, 0, none⟩ cap [UInt8.ofNat c.toNat, UInt8.ofNat d.toNat] Tryz.underlying70 Tryz.underlying5 Tryz.underlying9 (by
    intro j hj
    have e1 : ((UInt8.ofNat c.toNat).toNat : Int) = c := by simp; omega
    have e2 : ((UInt8.ofNat d.toNat).toNat : Int) = d := by simp; omega
    simp at hj
    obtain rfl | rfl : j = 0 ∨ j = 1 := by omega
    · simp only [List.getElem_cons_zero, e1]; exact hc
    · simp only [List.getElem_cons_succ, List.getElem_cons_zero, e2]; exact hd)
  exact this

end Go.Proofs.YtkgjcahcpeehjaaGreatDoor
namespace Go.Proofs.YtkgjcahcpeehjaaGreatDoor
set_option maxRecDepth 100000
open Go.ChangeShapes Go.WideShapes Go.ChangeAt Go.RowKit

/-- rules without lists, in cells -/
theorem bare_in {w : World} {base cap : Nat} {A : Option Addr} {acc : List RL} (h : w.ownsRow base 24 11 (.slice A acc.length cap) acc.length (rcells acc)) (hl : ∀ x ∈ acc, x.2.2 = .slice none 0 0 ∧ x.1.list = []) : RIn w A acc :=
  rIn_of (base := base) (cap := cap) ⟨h, fun x hx => by rw [(hl x hx).1, (hl x hx).2]; exact ownL_nil _ _⟩
theorem Comp_bare (acc : List RL) (A : Option Addr) (cap base : Nat) (w : World) (h : w.ownsRow base 24 11 (.slice A acc.length cap) acc.length (rcells acc)) (hl : ∀ x ∈ acc, x.2.2 = .slice none 0 0 ∧ x.1.list = []) (ha : acc.length ≤ 1000)
    (hsm : ∀ x ∈ acc, Small x.1) (hpr : ∀ x ∈ acc.map er, printP x.1 ≠ none) (hg : HandleAt w) (ht : TabAt w) :
    Calls Tryz.prog 31 #[.slice A acc.length cap] w (CompTo (compL (acc.map er)) w) := by
  have h1 := Compile_any acc A cap w (bare_in h hl) ha (own_cap h) hsm (fun x hx => by rw [(hl x hx).2]; simp) (fun x hx B c e => by
    rw [(hl x hx).1] at e
    injection e with e1 e2 e3
    refine .inl ⟨(hl x hx).2, fun _ => e3.symm⟩) hg ht
  rwa [compR_ok hpr] at h1
theorem small_st {i : Nat} : Small (stR i) := ⟨by show ((-9223372036854775808 : Int) ≤ 1 ∧ (1 : Int) ≤ 9223372036854775807); decide, by show ((-9223372036854775808 : Int) ≤ 0 ∧ (0 : Int) ≤ 9223372036854775807); decide, by simp [stR, totR, nmC, sumL]⟩
theorem small_au : Small auR := ⟨by decide, by decide, by decide⟩
theorem small_one : Small oneR := ⟨by decide, by decide, by decide⟩
theorem flt_below {w w' : World} {b : Nat} {l c k : Int} (h : FaultAt w b l c k) (hl : b < w.heap.size) (hb : Below w.heap.size w w') : FaultAt w' b l c k :=
  ⟨(hb.cell (p := ⟨b, 0, none⟩) hl).trans h.1, (hb.cell (p := ⟨b, 1, none⟩) hl).trans h.2.1, (hb.cell (p := ⟨b, 2, none⟩) hl).trans h.2.2⟩
theorem flt_of {ln : Nat} {k : Int} {w : World} {e : Ending} {w' : World} (h : CompTo (.bad ln k) w e w') : Below w.heap.size w w' ∧ ∃ b, e = .returned (.tuple #[chZ, .iface 98 (.pointer (some ⟨b, 0, none⟩))]) ∧ b < w'.heap.size ∧ FaultAt w' b ln 1 k := by
  obtain ⟨h1, b, h2, _, h3, h4⟩ := h
  exact ⟨h1, b, h2, h3, h4⟩
theorem keepAt0 (w : World) : Calls Tryz.prog 32 #[.nilIface] w fun e w' => e = .returned (.tuple #[.int .i64 0, .int .i64 0, .bool false]) ∧ Below w.heap.size w w' := by
  have hb := Lib.hid (box_b w (.cells #[.pointer none] 98))
  go_enter Tryz.func32, Tryz.ntmps32
  go_wp2_with (go_at_call 47; refine (As_nil _ _).mono ?_; rintro e w1 ⟨rfl, rfl⟩)
  go_ret3
  exact ⟨rfl, hb.out⟩
theorem own_at1 {w : World} {b k : Nat} {v : Value} {l : List Tx} (h : OwnL w b v l) (hl : l.length = k) : w.ownsRow b 9 1 v k (scells l) := by subst hl; exact h
def accO : List RL := [(oneR, 1, .slice none 0 0)]
theorem Comp_one (W : World) (hg : HandleAt W) (ht : TabAt W) : ∃ c : Ch, c.names.length = 1 ∧ Calls Tryz.prog 31 #[.slice (some ⟨W.heap.size, 0, none⟩) 1 1] (W.alloc (.cells #[.int .i64 8, .string ⟨#[115]⟩, .slice none 0 0, .int .i64 1, .int .i64 0, .string ⟨#[]⟩, .string ⟨#[]⟩, .string ⟨#[]⟩, .string ⟨#[]⟩, .string ⟨#[]⟩, .int .i64 1] 24)) (CompTo (.ok c) (W.alloc (.cells #[.int .i64 8, .string ⟨#[115]⟩, .slice none 0 0, .int .i64 1, .int .i64 0, .string ⟨#[]⟩, .string ⟨#[]⟩, .string ⟨#[]⟩, .string ⟨#[]⟩, .string ⟨#[]⟩, .int .i64 1] 24))) := by
  obtain ⟨c, h1, h2, _⟩ := wake_one
  refine ⟨c, h2, ?_⟩
  have hb := box_b W (.cells #[.int .i64 8, .string ⟨#[115]⟩, .slice none 0 0, .int .i64 1, .int .i64 0, .string ⟨#[]⟩, .string ⟨#[]⟩, .string ⟨#[]⟩, .string ⟨#[]⟩, .string ⟨#[]⟩, .int .i64 1] 24)
  have h := Comp_bare accO (some ⟨W.heap.size, 0, none⟩) 1 W.heap.size (W.alloc (.cells #[.int .i64 8, .string ⟨#[115]⟩, .slice none 0 0, .int .i64 1, .int .i64 0, .string ⟨#[]⟩, .string ⟨#[]⟩, .string ⟨#[]⟩, .string ⟨#[]⟩, .string ⟨#[]⟩, .int .i64 1] 24)) (World.ownsRow_lit W #[.int .i64 8, .string ⟨#[115]⟩, .slice none 0 0, .int .i64 1, .int .i64 0, .string ⟨#[]⟩, .string ⟨#[]⟩, .string ⟨#[]⟩, .string ⟨#[]⟩, .string ⟨#[]⟩, .int .i64 1] 1 (Nat.le_refl _) (by unfold maxLen; omega) rfl) (fun x hx => by rw [List.mem_singleton.1 hx]; exact ⟨rfl, rfl⟩) (by decide) (fun x hx => by rw [List.mem_singleton.1 hx]; exact small_one) (fun x hx => by
    have e : x = (oneR, 1) := by simpa [accO, er] using hx
    rw [e]; exact one_ok.1) (hg.below' hb) (ht.below hb)
  have e : compL (accO.map er) = .ok c := h1
  rw [e] at h
  exact h
set_option maxHeartbeats 2000000 in
theorem wakes08 (w : World) (hg : HandleAt w) (ht : TabAt w) : Calls Tryz.prog 30 #[] w (TrueOn w) := by
  have c0 := Comp_bare [] none 0 0 w (World.ownsRow_nil _ _ _ _) (fun x hx => by cases hx) (by simp) (fun x hx => by cases hx) (fun x hx => by simp at hx) hg ht
  have e0 : compL (([] : List RL).map er) = .none := wake_none
  rw [e0] at c0
  have C0 : Hid (Calls Tryz.prog 31 #[.slice none 0 0] w (CompTo .none w)) := c0
  have HG := Lib.hid hg
  have HT := Lib.hid ht
  clear c0 e0 hg ht
  go_enter Tryz.func30, Tryz.ntmps30
  go_upto_region 2 with (go_at_call 31; refine C0.out.mono ?_; rintro e w1 ⟨hb1, fb, rfl, hf1, hf2, hF⟩)
  have hbx := box_b w1 (.cells #[.slice none 0 0, .slice none 0 0, .slice none 0 0, .slice none 0 0] 54)
  have hb2 := below_then hb1 hbx hb1.size
  have hF2 := flt_below hF hf2 hbx
  have hfl2 := Nat.lt_of_lt_of_le hf2 hbx.size
  clear hF hf2 hb1 hbx C0
  generalize w1.alloc (.cells #[.slice none 0 0, .slice none 0 0, .slice none 0 0, .slice none 0 0] 54) = w2 at *
  obtain ⟨c, hc1, hC⟩ := Comp_one w2 (HG.out.below' hb2) (HT.out.below hb2)
  have HC := Lib.hid hC
  have HC1 := Lib.hid hc1
  have hbr := box_b w2 (.cells #[.int .i64 8, .string ⟨#[115]⟩, .slice none 0 0, .int .i64 1, .int .i64 0, .string ⟨#[]⟩, .string ⟨#[]⟩, .string ⟨#[]⟩, .string ⟨#[]⟩, .string ⟨#[]⟩, .int .i64 1] 24)
  have HF2 := Lib.hid (flt_below hF2 hfl2 hbr)
  have hfl3 := Nat.lt_of_lt_of_le hfl2 hbr.size
  have HB2 := Lib.hid (below_then hb2 hbr hb2.size)
  clear hC hc1 hF2 hfl2 hb2 hbr
  go_upto_region 3 with (go_at_call 31; refine HC.out.mono ?_; rintro e w3 ⟨hb3, ⟨vN, vK, vP, vT, rfl, hA⟩, _, _⟩; have h9 := own_at1 hA.oN HC1.out; obtain ⟨AN, cN, rfl⟩ := own_slice h9; obtain ⟨AK, cK, rfl⟩ := own_slice hA.oK; obtain ⟨AP, cP, rfl⟩ := own_slice hA.oP; obtain ⟨AT, cT, rfl⟩ := own_slice hA.oT; have HF3 := Lib.hid (flt_below HF2.out hfl3 hb3); have hfl4 := Nat.lt_of_lt_of_le hfl3 hb3.size; have HB3 := Lib.hid (below_then HB2.out hb3 HB2.out.size); clear hb3 h9 hA)
  have R4 := heap_alloc_new w3 (.cells #[.slice AN 1 cN, .slice AK c.kinds.length cK, .slice AP c.parents.length cP, .slice AT c.trans.length cT] 54)
  have hb4 := box_b w3 (.cells #[.slice AN 1 cN, .slice AK c.kinds.length cK, .slice AP c.parents.length cP, .slice AT c.trans.length cT] 54)
  have q0 : (w3.alloc (.cells #[.slice AN 1 cN, .slice AK c.kinds.length cK, .slice AP c.parents.length cP, .slice AT c.trans.length cT] 54)).cell? ⟨w3.heap.size, 0, none⟩ = some (.slice AN 1 cN) := by rw [cell_of_row _ _ _ _ _ _ R4]; rfl
  have KI := Lib.hid (keepIs (.iface 98 (.pointer (some ⟨fb, 0, none⟩))) 3 3 (w3.alloc (.cells #[.slice AN 1 cN, .slice AK c.kinds.length cK, .slice AP c.parents.length cP, .slice AT c.trans.length cT] 54)) (.inr ⟨fb, 0, rfl, (flt_below HF3.out hfl4 hb4).2.2⟩) (by omega) (by omega))
  have HB4 := Lib.hid (below_then HB3.out hb4 HB3.out.size)
  clear R4 hb4 hfl4 hfl3 hf1
  go_wp2_with (go_at_call 15; refine KI.out.mono ?_; rintro e w5 ⟨rfl, rfl⟩)
  go_ret
  exact ⟨rfl, HB4.out⟩

def accS (n : Nat) : List RL := (List.range n).map fun i => (stR i, 1 + i, .slice none 0 0)
def accM (n m : Nat) : List RL := accS n ++ (List.range m).map fun i => (auR, 100 + i, .slice none 0 0)
theorem accS_len (n : Nat) : (accS n).length = n := by simp [accS]
theorem accM_len (n m : Nat) : (accM n m).length = n + m := by simp [accM, accS]
theorem accS_succ (n : Nat) : rcells (accS (n + 1)) = rcells (accS n) ++ rcell (stR n, 1 + n, .slice none 0 0) := by
  unfold accS; rw [List.range_succ, List.map_append]; exact rcells_snoc _ _
theorem accM_succ (n m : Nat) : rcells (accM n (m + 1)) = rcells (accM n m) ++ rcell (auR, 100 + m, .slice none 0 0) := by
  unfold accM; rw [List.range_succ, List.map_append, ← List.append_assoc]; exact rcells_snoc _ _
theorem accM_zero (n : Nat) : accM n 0 = accS n := by simp [accM]
theorem accM_er (n m : Nat) : (accM n m).map er = limL n m := by
  unfold accM limL stsL accS
  rw [List.map_append, List.map_map, List.map_map]; rfl
theorem accM_bare (n m : Nat) : ∀ x ∈ accM n m, (x.2.2 = .slice none 0 0 ∧ x.1.list = []) ∧ Small x.1 := by
  intro x hx
  rcases List.mem_append.1 hx with h | h
  · obtain ⟨i, _, rfl⟩ := List.mem_map.1 h; exact ⟨⟨rfl, rfl⟩, small_st⟩
  · obtain ⟨i, _, rfl⟩ := List.mem_map.1 h; exact ⟨⟨rfl, rfl⟩, small_au⟩
theorem st_cells (k : Nat) : rcell (stR k, 1 + k, .slice none 0 0) = [.int .i64 8, .string (⟨#[115]⟩ ++ bs [byteOf (97 + k % 26), byteOf (97 + k / 26)]), .slice none 0 0, .int .i64 1, .int .i64 0, .string ⟨#[]⟩, .string ⟨#[]⟩, .string ⟨#[]⟩, .string ⟨#[]⟩, .string ⟨#[]⟩, .int .i64 (1 + (k : Int))] := by
  have e : (⟨#[115]⟩ : ByteArray) ++ bs [byteOf (97 + k % 26), byteOf (97 + k / 26)] = bs (nmC k) := by
    rw [show (⟨#[115]⟩ : ByteArray) = bs [115] from rfl, bs_append]; rfl
  have e2 : ((1 + k : Nat) : Int) = 1 + (k : Int) := by omega
  show ([.int .i64 8, .string (bs (nmC k)), .slice none 0 0, .int .i64 1, .int .i64 0, .string (bs []), .string (bs []), .string (bs []), .string (bs []), .string (bs []), .int .i64 ((1 + k : Nat) : Int)] : List Value) = _
  rw [e2, ← e]; rfl
theorem au_cells (k : Nat) : rcell (auR, 100 + k, .slice none 0 0) = [.int .i64 10, .string ⟨#[]⟩, .slice none 0 0, .int .i64 0, .int .i64 0, .string ⟨#[115, 97, 97]⟩, .string ⟨#[115, 98, 97]⟩, .string ⟨#[]⟩, .string ⟨#[]⟩, .string ⟨#[]⟩, .int .i64 (100 + (k : Int))] := by
  have e2 : ((100 + k : Nat) : Int) = 100 + (k : Int) := by omega
  show ([.int .i64 10, .string (bs []), .slice none 0 0, .int .i64 0, .int .i64 0, .string (bs [115, 97, 97]), .string (bs [115, 98, 97]), .string (bs []), .string (bs []), .string (bs []), .int .i64 ((100 + k : Nat) : Int)] : List Value) = _
  rw [e2]; rfl
theorem new_two (w : World) (o : Obj) (l : List Value) (e : TypeId) : ∀ j u, l[j]? = some u → ((w.alloc o).alloc (.cells l.toArray e)).cell? ((⟨w.heap.size + 1, 0, none⟩ : Addr).add j) = some u := by
  intro j u hu
  have h := cells_new (w.alloc o) l e j u hu
  rwa [show (w.alloc o).heap.size = w.heap.size + 1 by simp] at h
theorem one_cells {l : List Value} (h : l.all (fun u => u.oneCell') = true) : ∀ u ∈ l, u.oneCell' = true := fun u hu => List.all_eq_true.1 h u hu
set_option maxHeartbeats 8000000 in
theorem climits_walk (w : World) (a b : Int) (ha : (Lit.int .i64 a).wf = true) (hb : (Lit.int .i64 b).wf = true) (hg : HandleAt w) (ht : TabAt w) :
    Calls Tryz.prog 6 #[.int .i64 a, .int .i64 b] w (TrueOn w) := by
  have hwa := fun W => Within_any a 3 W ha (by omega) (by omega)
  have hwb := fun W => Within_any b 3 W hb (by omega) (by omega)
  have h1 := within_bd a 3 (by omega)
  have h2 := within_bd b 3 (by omega)
  obtain ⟨n, hn⟩ : ∃ n : Nat, within a 3 = (n : Int) - 23 := ⟨(23 + within a 3).toNat, by omega⟩
  obtain ⟨m, hm⟩ : ∃ m : Nat, within b 3 = (m : Int) - 47 := ⟨(47 + within b 3).toNat, by omega⟩
  rw [hn] at hwa h1
  rw [hm] at hwb h2
  have HWA := Lib.hid hwa
  have HWB := Lib.hid hwb
  have HG := Lib.hid hg
  have HT := Lib.hid ht
  have ena : IntKind.i64.wrap (23 + ((n : Int) - 23)) = n := by rw [IntKind.wrap_i64]; omega
  have emb : IntKind.i64.wrap (47 + ((m : Int) - 47)) = m := by rw [IntKind.wrap_i64]; omega
  obtain ⟨i0, hi, hz0, hz1, hz2⟩ := info_parts Tryz.infoRule
  clear hwa hwb hn hm hg ht
  go_enter Tryz.func6, Tryz.ntmps6
  go_upto_region 4 with (first
    | (go_at_call_of 21 (Value.int .i64 a); refine (HWA.out _).mono ?_; rintro e w1 ⟨rfl, rfl⟩)
    | (go_at_call_of 21 (Value.int .i64 b); refine (HWB.out _).mono ?_; rintro e w1 ⟨rfl, rfl⟩))
  clear ena emb HWA HWB
  go_loopw [5, 6] (fun l i wr => ∃ k : Nat, k ≤ n ∧ i = .int .i64 k ∧ Hid (wr.ownsRow w.heap.size 24 11 l k (rcells (accS k))) ∧ Hid (Below w.heap.size w wr)) (fun _ i _ => n - (intOf i).toNat)
  case atStart => exact ⟨0, Nat.zero_le _, rfl, World.ownsRow_nil _ _ _ _, Below.refl _ _⟩
  case round =>
    obtain ⟨k, hk, rfl, HO, HB⟩ := hrel
    have hbz := HB.out.size
    by_cases hlt : k < n
    · have hcv : ∀ W b cap, W.cell? ⟨b, 0, none⟩ = some (.int .u8 (97 + (k : Int) % 26)) → W.cell? ⟨b, 1, none⟩ = some (.int .u8 (97 + (k : Int) / 26)) → (convert 70 9 (.slice (some ⟨b, 0, none⟩) 2 cap)).run Tryz.prog W = .ok (.string (bs [byteOf (97 + k % 26), byteOf (97 + k / 26)])) W := fun W b cap hc hd => by
        have h := conv_two W b cap _ _ (by omega) (by omega) (by omega) (by omega) hc hd
        have e1 : (97 + (k : Int) % 26).toNat = 97 + k % 26 := by omega
        have e2 : (97 + (k : Int) / 26).toNat = 97 + k / 26 := by omega
        rw [e1, e2] at h
        exact h
      obtain ⟨A1, c1, rfl⟩ := own_slice HO.out
      have HSC := Lib.hid (accS_succ k)
      have HST := Lib.hid (st_cells k)
      go_wp2_with (at_builtin; go_must (refine wpList_append_own _ rfl (.tmp 24) (.tmp 39) 36 rfl w.heap.size 24 i0 _ 11 152 Tryz.underlying36 hi hz0 hz1 hz2 rfl (by decide) _ k _ rfl (World.ownsRow.alloc (World.ownsRow.alloc HO.out _) _) ⟨wr.heap.size + 1, 0, none⟩ 1 1 [.int .i64 8, .string (⟨#[115]⟩ ++ bs [byteOf (97 + k % 26), byteOf (97 + k / 26)]), .slice none 0 0, .int .i64 1, .int .i64 0, .string ⟨#[]⟩, .string ⟨#[]⟩, .string ⟨#[]⟩, .string ⟨#[]⟩, .string ⟨#[]⟩, .int .i64 (1 + (k : Int))] rfl rfl (new_two wr (.cells #[.int .u8 (97 + (k : Int) % 26), .int .u8 (97 + (k : Int) / 26)] 5) [.int .i64 8, .string (⟨#[115]⟩ ++ bs [byteOf (97 + k % 26), byteOf (97 + k / 26)]), .slice none 0 0, .int .i64 1, .int .i64 0, .string ⟨#[]⟩, .string ⟨#[]⟩, .string ⟨#[]⟩, .string ⟨#[]⟩, .string ⟨#[]⟩, .int .i64 (1 + (k : Int))] 24) (one_cells rfl) (by unfold maxLen; omega) (by omega) (by simp; omega) ?_); intro v' w2 hown' hg' _)
      have hg2 : wr.grownBy w2 (Value.slice A1 k c1).ownBlock := ((World.grownBy_alloc _ _ _).andThen (World.grownBy_alloc _ _ _) (fun j e => .inr e)).andThen hg' (fun j e => .inr e)
      have HN : Hid (w2.ownsRow w.heap.size 24 11 v' (k + 1) (rcells (accS (k + 1)))) := by
        show World.ownsRow _ _ _ _ _ _ _
        rw [HSC.out, HST.out]; exact hown'
      have HB2 := Lib.hid (HB.out.grown hg2 hbz (fun j e => (World.ownsRow.lt HO.out j e).1))
      clear hown' hg' hg2 hcv
      go_roundw
      case rel => exact ⟨k + 1, by omega, by go_num, HN, HB2⟩
      case measure => simp [intOf]; omega
    · have HK : Hid (k = n) := by show _ = _; omega
      rw [HK.out] at HO
      clear HK
      have HOM : Hid (wr.ownsRow w.heap.size 24 11 u5 (n + 0) (rcells (accM n 0))) := by rw [accM_zero]; exact HO
      clear HO
      go_wp2
      clear hlt hk
      obtain ⟨w0, rfl⟩ : ∃ w0 : World, w0 = wr := ⟨_, rfl⟩
      go_loopw [5, 7] (fun l i wx => ∃ k : Nat, k ≤ m ∧ i = .int .i64 k ∧ Hid (wx.ownsRow w.heap.size 24 11 l (n + k) (rcells (accM n k))) ∧ Hid (Below w.heap.size w wx)) (fun _ i _ => m - (intOf i).toNat)
      case atStart => exact ⟨0, Nat.zero_le _, rfl, HOM, HB⟩
      case round =>
        clear HB HOM
        obtain ⟨k, hk, rfl, HO, HB⟩ := hrel
        obtain ⟨wx, rfl⟩ : ∃ wx : World, wx = wr := ⟨_, rfl⟩
        have hbz := HB.out.size
        obtain ⟨A1, c1, rfl⟩ := own_slice HO.out
        by_cases hlt : k < m
        · have HSC := Lib.hid (accM_succ n k)
          have HST := Lib.hid (au_cells k)
          go_wp2_with (at_builtin; go_must (refine wpList_append_own _ rfl (.tmp 46) (.tmp 50) 36 rfl w.heap.size 24 i0 _ 11 152 Tryz.underlying36 hi hz0 hz1 hz2 rfl (by decide) _ (n + k) _ rfl (World.ownsRow.alloc HO.out _) ⟨wx.heap.size, 0, none⟩ 1 1 [.int .i64 10, .string ⟨#[]⟩, .slice none 0 0, .int .i64 0, .int .i64 0, .string ⟨#[115, 97, 97]⟩, .string ⟨#[115, 98, 97]⟩, .string ⟨#[]⟩, .string ⟨#[]⟩, .string ⟨#[]⟩, .int .i64 (100 + (k : Int))] rfl rfl (cells_new wx [.int .i64 10, .string ⟨#[]⟩, .slice none 0 0, .int .i64 0, .int .i64 0, .string ⟨#[115, 97, 97]⟩, .string ⟨#[115, 98, 97]⟩, .string ⟨#[]⟩, .string ⟨#[]⟩, .string ⟨#[]⟩, .int .i64 (100 + (k : Int))] 24) (one_cells rfl) (by unfold maxLen; omega) (by omega) (by simp; omega) ?_); intro v' w2 hown' hg' _)
          have hg2 : wx.grownBy w2 (Value.slice A1 (n + k) c1).ownBlock := (World.grownBy_alloc _ _ _).andThen hg' (fun j e => .inr e)
          have HN : Hid (w2.ownsRow w.heap.size 24 11 v' (n + (k + 1)) (rcells (accM n (k + 1)))) := by
            show World.ownsRow _ _ _ _ _ _ _
            rw [HSC.out, HST.out]; exact hown'
          have HB2 := Lib.hid (HB.out.grown hg2 hbz (fun j e => (World.ownsRow.lt HO.out j e).1))
          clear hown' hg' hg2
          go_roundw
          case rel => exact ⟨k + 1, by omega, by go_num, HN, HB2⟩
          case measure => simp [intOf]; omega
        · have hkm : m = k := by omega
          subst hkm
          have CB : Hid (Calls Tryz.prog 31 #[.slice A1 (n + m) c1] wx (CompTo (compL (limL n m)) wx)) := by
            have h := Comp_bare (accM n m) A1 c1 w.heap.size wx (by rw [accM_len]; exact HO.out) (fun x hx => (accM_bare n m x hx).1) (by rw [accM_len]; omega) (fun x hx => (accM_bare n m x hx).2) (fun x hx => by rw [accM_er] at hx; exact (lim_ok (by omega) x hx).1) (HG.out.below' HB.out) (HT.out.below HB.out)
            rw [accM_len, accM_er] at h
            exact h
          have hlti : ¬ (m : Int) < m := by omega
          clear hk HO
          by_cases hn25 : n = 25
          · have h25 : (24 : Int) < n := by omega
            have CE : Hid (Calls Tryz.prog 31 #[.slice A1 (n + m) c1] wx (CompTo (.bad 25 5) wx)) := by
              have h := CB.out
              rw [lim_states hn25 (by omega : m = 47 ∨ m = 48 ∨ m = 49)] at h
              exact h
            clear CB hn25
            go_upto_region 12 with (go_at_call 31; refine CE.out.mono ?_; intro e w1 h9; obtain ⟨hb1, fb, e9, hf2, hF⟩ := flt_of h9; subst e9; clear h9)
            clear hlt hlti
            have hbx := box_b w1 (.cells #[.slice none 0 0, .slice none 0 0, .slice none 0 0, .slice none 0 0] 54)
            have HB1 := Lib.hid (below_then HB.out hb1 HB.out.size)
            have hB2 := below_then HB1.out hbx HB1.out.size
            have hF2 := flt_below hF hf2 hbx
            have hfl2 := Nat.lt_of_lt_of_le hf2 hbx.size
            have RC := heap_alloc_new w1 (.cells #[.slice none 0 0, .slice none 0 0, .slice none 0 0, .slice none 0 0] 54)
            have hrl : w1.heap.size < (w1.alloc (.cells #[.slice none 0 0, .slice none 0 0, .slice none 0 0, .slice none 0 0] 54)).heap.size := by simp
            have KA : Hid (Calls Tryz.prog 32 #[.iface 98 (.pointer (some ⟨fb, 0, none⟩))] (w1.alloc (.cells #[.slice none 0 0, .slice none 0 0, .slice none 0 0, .slice none 0 0] 54)) fun e w' => e = .returned (.tuple #[.int .i64 25, .int .i64 1, .bool true]) ∧ Below (w1.alloc (.cells #[.slice none 0 0, .slice none 0 0, .slice none 0 0, .slice none 0 0] 54)).heap.size (w1.alloc (.cells #[.slice none 0 0, .slice none 0 0, .slice none 0 0, .slice none 0 0] 54)) w') := keepAt fb 25 1 5 _ hF2 (HG.out.below' hB2)
            clear hF hf2 hb1 hbx
            go_upto_region 13 with (go_at_call 32; refine KA.out.mono ?_; rintro e w3 ⟨rfl, hb3⟩)
            have HB3 := Lib.hid (below_then hB2 hb3 hB2.size)
            have R3 := (hb3.block _ hrl).trans RC
            have q0 : w3.cell? ⟨w1.heap.size, 0, none⟩ = some (.slice none 0 0) := by rw [cell_of_row _ _ _ _ _ _ R3]; rfl
            have q3 : w3.cell? ⟨w1.heap.size, 3, none⟩ = some (.slice none 0 0) := by rw [cell_of_row _ _ _ _ _ _ R3]; rfl
            have KI := Lib.hid (keepIs (.iface 98 (.pointer (some ⟨fb, 0, none⟩))) 5 5 w3 (.inr ⟨fb, 0, rfl, (flt_below hF2 hfl2 hb3).2.2⟩) (by omega) (by omega))
            have WK := Lib.hid (wakes08 w3 (HG.out.below' HB3.out) (HT.out.below HB3.out))
            clear hF2 hfl2 hb3 KA RC R3 hrl hB2 CE
            go_upto_region 14 with fail
            clear h1 h2 h25 hi hz0 hz1 hz2
            go_wp2_with (first
              | (go_at_call 15; refine KI.out.mono ?_; rintro e w4 ⟨rfl, rfl⟩)
              | (go_at_call 30; refine WK.out.mono ?_; rintro e w5 ⟨rfl, hb5⟩))
            go_ret
            exact ⟨rfl, below_then HB3.out hb5 HB3.out.size⟩
          have hn24 : ¬ (24 : Int) < n := by omega
          by_cases hm49 : m = 49
          · have h49 : (48 : Int) < m := by omega
            have CE : Hid (Calls Tryz.prog 31 #[.slice A1 (n + m) c1] wx (CompTo (.bad 148 5) wx)) := by
              have h := CB.out
              have e : compL (limL n m) = .bad 148 5 := by rw [hm49]; exact lim_trans (by omega : n = 23 ∨ n = 24)
              rw [e] at h
              exact h
            clear CB hm49 hn25
            go_upto_region 12 with (go_at_call 31; refine CE.out.mono ?_; intro e w1 h9; obtain ⟨hb1, fb, e9, hf2, hF⟩ := flt_of h9; subst e9; clear h9)
            clear hlt hlti
            have hbx := box_b w1 (.cells #[.slice none 0 0, .slice none 0 0, .slice none 0 0, .slice none 0 0] 54)
            have HB1 := Lib.hid (below_then HB.out hb1 HB.out.size)
            have hB2 := below_then HB1.out hbx HB1.out.size
            have hF2 := flt_below hF hf2 hbx
            have hfl2 := Nat.lt_of_lt_of_le hf2 hbx.size
            have RC := heap_alloc_new w1 (.cells #[.slice none 0 0, .slice none 0 0, .slice none 0 0, .slice none 0 0] 54)
            have hrl : w1.heap.size < (w1.alloc (.cells #[.slice none 0 0, .slice none 0 0, .slice none 0 0, .slice none 0 0] 54)).heap.size := by simp
            have KA : Hid (Calls Tryz.prog 32 #[.iface 98 (.pointer (some ⟨fb, 0, none⟩))] (w1.alloc (.cells #[.slice none 0 0, .slice none 0 0, .slice none 0 0, .slice none 0 0] 54)) fun e w' => e = .returned (.tuple #[.int .i64 148, .int .i64 1, .bool true]) ∧ Below (w1.alloc (.cells #[.slice none 0 0, .slice none 0 0, .slice none 0 0, .slice none 0 0] 54)).heap.size (w1.alloc (.cells #[.slice none 0 0, .slice none 0 0, .slice none 0 0, .slice none 0 0] 54)) w') := keepAt fb 148 1 5 _ hF2 (HG.out.below' hB2)
            clear hF hf2 hb1 hbx
            go_upto_region 13 with (go_at_call 32; refine KA.out.mono ?_; rintro e w3 ⟨rfl, hb3⟩)
            have HB3 := Lib.hid (below_then hB2 hb3 hB2.size)
            have R3 := (hb3.block _ hrl).trans RC
            have q0 : w3.cell? ⟨w1.heap.size, 0, none⟩ = some (.slice none 0 0) := by rw [cell_of_row _ _ _ _ _ _ R3]; rfl
            have q3 : w3.cell? ⟨w1.heap.size, 3, none⟩ = some (.slice none 0 0) := by rw [cell_of_row _ _ _ _ _ _ R3]; rfl
            have KI := Lib.hid (keepIs (.iface 98 (.pointer (some ⟨fb, 0, none⟩))) 5 5 w3 (.inr ⟨fb, 0, rfl, (flt_below hF2 hfl2 hb3).2.2⟩) (by omega) (by omega))
            have WK := Lib.hid (wakes08 w3 (HG.out.below' HB3.out) (HT.out.below HB3.out))
            clear hF2 hfl2 hb3 KA RC R3 hrl hB2 CE
            go_upto_region 16 with fail
            clear h1 h2 h49 hn24 hi hz0 hz1 hz2
            go_wp2_with (first
              | (go_at_call 15; refine KI.out.mono ?_; rintro e w4 ⟨rfl, rfl⟩)
              | (go_at_call 30; refine WK.out.mono ?_; rintro e w5 ⟨rfl, hb5⟩))
            go_ret
            exact ⟨rfl, below_then HB3.out hb5 HB3.out.size⟩
          have hm48 : ¬ (48 : Int) < m := by omega
          obtain ⟨c, hc1, hc2, hc3⟩ := lim_none (n := n) (m := m) (by omega) (by omega)
          have HV : Hid (validB c = true) := comp_valid hc1 (fun x hx => (lim_ok (by omega) x hx).2)
          have CE : Hid (Calls Tryz.prog 31 #[.slice A1 (n + m) c1] wx (CompTo (.ok c) wx)) := by
            have h := CB.out
            rw [hc1] at h
            exact h
          have HN1 : Hid (((c.names.length : Int) == n) = true) := by show _ = _; rw [hc2]; simp
          have HN2 : Hid (((c.trans.length : Int) == m) = true) := by show _ = _; rw [hc3]; simp
          have hnl : c.names.length ≤ 24 := by omega
          clear CB hc1 hc2 hc3 hn25 hm49
          go_upto_region 12 with (go_at_call 31; refine CE.out.mono ?_; rintro e w1 ⟨hb1, ⟨vN, vK, vP, vT, rfl, hA⟩, hcf, hci⟩; obtain ⟨AN, cN, rfl⟩ := own_slice hA.oN; obtain ⟨AK, cK, rfl⟩ := own_slice hA.oK; obtain ⟨AP, cP, rfl⟩ := own_slice hA.oP; obtain ⟨AT, cT, rfl⟩ := own_slice hA.oT)
          clear hlt hlti
          have hbx := box_b w1 (.cells #[.slice AN c.names.length cN, .slice AK c.kinds.length cK, .slice AP c.parents.length cP, .slice AT c.trans.length cT] 54)
          have HB1 := Lib.hid (below_then HB.out hb1 HB.out.size)
          have hB2 := below_then HB1.out hbx HB1.out.size
          have RC := heap_alloc_new w1 (.cells #[.slice AN c.names.length cN, .slice AK c.kinds.length cK, .slice AP c.parents.length cP, .slice AT c.trans.length cT] 54)
          have hrl : w1.heap.size < (w1.alloc (.cells #[.slice AN c.names.length cN, .slice AK c.kinds.length cK, .slice AP c.parents.length cP, .slice AT c.trans.length cT] 54)).heap.size := by simp
          have hs1 := hb1.size
          have KA := Lib.hid (keepAt0 (w1.alloc (.cells #[.slice AN c.names.length cN, .slice AK c.kinds.length cK, .slice AP c.parents.length cP, .slice AT c.trans.length cT] 54)))
          have HAA := Lib.hid hA
          have HCF := Lib.hid hcf
          have HCI := Lib.hid hci
          clear CE hb1 hA hcf hci
          go_upto_region 13 with (go_at_call 32; refine KA.out.mono ?_; rintro e w3 ⟨rfl, hb3⟩)
          have HB3 := Lib.hid (below_then hB2 hb3 hB2.size)
          have hb13 := below_then hbx hb3 hbx.size
          have R3 := (hb3.block _ hrl).trans RC
          have q0 : w3.cell? ⟨w1.heap.size, 0, none⟩ = some (.slice AN c.names.length cN) := by rw [cell_of_row _ _ _ _ _ _ R3]; rfl
          have q1 : w3.cell? ⟨w1.heap.size, 1, none⟩ = some (.slice AK c.kinds.length cK) := by rw [cell_of_row _ _ _ _ _ _ R3]; rfl
          have q2 : w3.cell? ⟨w1.heap.size, 2, none⟩ = some (.slice AP c.parents.length cP) := by rw [cell_of_row _ _ _ _ _ _ R3]; rfl
          have q3 : w3.cell? ⟨w1.heap.size, 3, none⟩ = some (.slice AT c.trans.length cT) := by rw [cell_of_row _ _ _ _ _ _ R3]; rfl
          have oN := own_below HAA.out.oN hb13 hs1
          have oK := own_below HAA.out.oK hb13 hs1
          have oP := own_below HAA.out.oP hb13 hs1
          have oT := own_below HAA.out.oT hb13 hs1
          have CV := Lib.hid (CValid_yes c AN AK AP AT cN cK cP cT w3 (listAt_of oN) ⟨ints_of_own oK HCI.out.1 (by have := HCF.out.kl; omega), ints_of_own oP HCI.out.2 (by have := HCF.out.pl; omega)⟩ (tAt_of oT) (own_cap oT) hnl HV.out)
          have WK := Lib.hid (fun X (hX : Below w.heap.size w X) => wakes08 X (HG.out.below' hX) (HT.out.below hX))
          have hn1 := HN1.out
          have hn2 := HN2.out
          clear oN oK oP oT hb13 R3 RC hrl hbx hB2 hb3 HAA hs1 KA HN1 HN2
          go_upto_region 17 with fail
          clear h1 h2 hn24 hm48 hi hz0 hz1 hz2 hnl
          go_wp2_with (first
            | (go_at_call 33; refine CV.out.mono ?_; rintro e w4 ⟨rfl, hb4⟩; have HB4 := Lib.hid (below_then HB3.out hb4 HB3.out.size); clear hb4)
            | (go_at_call 30; refine (WK.out _ HB4.out).mono ?_; rintro e w5 ⟨rfl, hb5⟩))
          go_ret
          exact ⟨rfl, below_then HB4.out hb5 HB4.out.size⟩
end Go.Proofs.YtkgjcahcpeehjaaGreatDoor

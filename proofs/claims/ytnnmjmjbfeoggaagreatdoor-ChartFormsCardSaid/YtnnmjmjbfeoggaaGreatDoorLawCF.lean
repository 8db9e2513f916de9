/-
  ChartLimits, ChartForms: the plain answers; the walks.
-/
import Derived.Test.YtnnmjmjbfeoggaaGreatDoorCh9
import Derived.Test.YtnnmjmjbfeoggaaGreatDoorRdrJ
import Derived.Test.YtnnmjmjbfeoggaaGreatDoorSmall
import Derived.Test.YtnnmjmjbfeoggaaGreatDoorRuleSt
import Derived.Test.YtnnmjmjbfeoggaaGreatDoorDigits
import Derived.Test.YtnnmjmjbfeoggaaGreatDoorRuleEq
namespace Go.Proofs.YtnnmjmjbfeoggaaGreatDoor
set_option maxRecDepth 100000

def nmX (i : Nat) : Tx := [120, byteOf (97 + i)]
/-- each text, the line, the error -/
def formT (k : Tx) : List (Tx × Int × Int) := [
  ([], 0, 3),
  ([114, 111, 108, 101, 32] ++ k ++ [10], 0, 3),
  ([115, 116, 97, 116, 101, 32] ++ k ++ [32, 112, 108, 97, 105, 110, 10, 115, 116, 97, 116, 101, 32] ++ k ++ [32, 97, 108, 108, 10], 2, 4),
  ([115, 116, 97, 116, 101, 32] ++ k ++ [32, 112, 108, 97, 105, 110, 32, 105, 110, 32, 97, 10, 115, 116, 97, 116, 101, 32, 97, 32, 112, 108, 97, 105, 110, 10], 1, 3),
  ([115, 116, 97, 116, 101, 32, 97, 32, 112, 108, 97, 105, 110, 10, 115, 116, 97, 116, 101, 32, 98, 32, 112, 108, 97, 105, 110, 32, 105, 110, 32, 97, 10, 115, 116, 97, 116, 101, 32, 104, 32, 112, 97, 115, 116, 32, 105, 110, 32, 97, 10, 115, 116, 97, 116, 101, 32] ++ k ++ [32, 112, 108, 97, 105, 110, 32, 105, 110, 32, 104, 10], 4, 1),
  ([115, 116, 97, 116, 101, 32, 104, 32, 112, 97, 115, 116, 10], 1, 1),
  ([115, 116, 97, 116, 101, 32, 97, 32, 97, 108, 108, 10, 115, 116, 97, 116, 101, 32, 104, 32, 100, 101, 101, 112, 32, 105, 110, 32, 97, 10], 2, 1),
  ([115, 116, 97, 116, 101, 32, 97, 32, 112, 108, 97, 105, 110, 10, 115, 116, 97, 116, 101, 32, 104, 32, 112, 97, 115, 116, 32, 105, 110, 32, 97, 10], 0, 3),
  ([115, 116, 97, 116, 101, 32, 97, 32, 112, 108, 97, 105, 110, 10, 111, 110, 32, 101, 32, 102, 114, 111, 109, 32, 97, 32, 116, 111, 32] ++ k ++ [10], 2, 3),
  ([111, 110, 32, 101, 32, 102, 114, 111, 109, 32] ++ k ++ [32, 116, 111, 32, 97, 10, 115, 116, 97, 116, 101, 32, 97, 32, 112, 108, 97, 105, 110, 10], 1, 3),
  ([115, 116, 97, 116, 101, 32, 97, 32, 112, 108, 97, 105, 110, 10, 115, 116, 97, 116, 101, 32, 98, 32, 112, 108, 97, 105, 110, 32, 105, 110, 32, 97, 10, 115, 116, 97, 116, 101, 32, 104, 32, 112, 97, 115, 116, 32, 105, 110, 32, 97, 10, 10, 97, 117, 116, 111, 32, 102, 114, 111, 109, 32, 104, 32, 116, 111, 32, 97, 10], 5, 1),
  ([111, 110, 32, 101, 32, 102, 114, 111, 109, 32, 97, 32, 116, 111, 32, 97, 10, 115, 116, 97, 116, 101, 32, 97, 32, 112, 108, 97, 105, 110, 10], -1, 0)]
theorem form_len (k : Tx) : (formT k).length = 12 := rfl
def formB (p : ChR) (line e : Int) : Bool := match p with
  | .ok _ => decide (line = -1) && decide (e = 0)
  | .none => decide (line = 0) && decide (e = 3)
  | .bad l c => decide ((l : Int) = line) && decide (1 ≤ l) && decide (c = e) && decide (e ≠ 0) && decide (e ≤ 14) && decide (0 ≤ e)
  | .arg => false
theorem form_all : ((List.range 9).all fun i => (formT (nmX i)).all fun x => formB (compL (polT x.1).l) x.2.1 x.2.2) = true := by decide +kernel
theorem form_at {i : Nat} (h : i < 9) {x : Tx × Int × Int} (hx : x ∈ formT (nmX i)) : formB (compL (polT x.1).l) x.2.1 x.2.2 = true :=
  List.all_eq_true.1 (List.all_eq_true.1 form_all i (List.mem_range.2 h)) x hx
end Go.Proofs.YtnnmjmjbfeoggaaGreatDoor
namespace Go.Proofs.YtnnmjmjbfeoggaaGreatDoor
set_option maxRecDepth 100000
open Go.ChangeShapes Go.WideShapes Go.ChangeAt Go.RowKit

theorem lines_le {x : Tx} : ∀ {ls : List Tx}, x ∈ ls → x.length ≤ linesLen ls
  | a :: ls, h => by
    simp only [linesLen, List.map_cons, List.sum_cons]
    rcases List.mem_cons.1 h with rfl | h
    · omega
    · have := lines_le h
      unfold linesLen at this
      omega
theorem pol_facts (s : Tx) : (polT s).l.length ≤ 160 ∧ ∀ x ∈ (polT s).l, Small x.1 ∧ x.1.list.length ≤ 4096 ∧ printP x.1 ≠ none := by
  cases hp : polT s with
  | limit => exact ⟨Nat.zero_le _, fun x hx => by cases hx⟩
  | bad a b c => exact ⟨Nat.zero_le _, fun x hx => by cases hx⟩
  | ok l =>
    have h0 := polT_all hp
    refine ⟨h0.2, fun x hx => ?_⟩
    have h := hp
    unfold polT at h
    split at h
    · cases h
    · obtain ⟨us, e, h1, h2, _⟩ := pol_told _ _ _ _ h
      rw [List.nil_append] at e
      subst e
      rw [linesLen_all] at h2
      have h3 : (joinP (lineP x.1)).length ≤ linesLen (l.map fun x => joinP (lineP x.1)) := lines_le (List.mem_map_of_mem (f := fun x : Ru × Nat => joinP (lineP x.1)) hx)
      refine ⟨small_of (h1 x hx).1 (by omega), (h0.1 x hx).1, ?_⟩
      rw [printP_some.2 ⟨rfl, (h1 x hx).1⟩]
      simp
theorem Comp_pol {s : Tx} (acc : List RL) (A : Option Addr) (cap base : Nat) (w : World) (hR : RowsAt w base (.slice A acc.length cap) acc) (he : acc.map er = (polT s).l) (hg : HandleAt w) (ht : TabAt w) :
    Calls Tryz.prog 27 #[.slice A acc.length cap] w (CompTo (compL (polT s).l) w) := by
  obtain ⟨h1, h2⟩ := pol_facts s
  rw [← he] at h1 h2
  have h3 : ∀ x ∈ acc, Small x.1 ∧ x.1.list.length ≤ 4096 := fun x hx => ⟨(h2 (er x) (List.mem_map_of_mem hx)).1, (h2 (er x) (List.mem_map_of_mem hx)).2.1⟩
  have h := Compile_any acc A cap w (rIn_of hR) (by rw [List.length_map] at h1; omega) (own_cap hR.1) (fun x hx => (h3 x hx).1) (fun x hx => by have := (h3 x hx).2; omega)
    (fun x hx B c e => own_LIn (by rw [← e]; exact hR.2 x hx)) hg ht
  rwa [compR_ok (fun x hx => (h2 x hx).2.2), he] at h
end Go.Proofs.YtnnmjmjbfeoggaaGreatDoor
namespace Go.Proofs.YtnnmjmjbfeoggaaGreatDoor
set_option maxRecDepth 100000

def sameB (s r : Ru) : Bool := decide (s.kind = r.kind) && decide (s.name = r.name) && decide (s.list = r.list) && decide (s.n = r.n) && decide (s.m = r.m) && decide (s.from_ = r.from_) && decide (s.to_ = r.to_) && decide (s.by_ = r.by_) && decide (s.task = r.task) && decide (s.in_ = r.in_)
theorem sameB_eq {s r : Ru} (h : sameB s r = true) : s = r := by
  obtain ⟨a1, a2, a3, a4, a5, a6, a7, a8, a9, a10⟩ := s
  obtain ⟨b1, b2, b3, b4, b5, b6, b7, b8, b9, b10⟩ := r
  simp only [sameB, Bool.and_eq_true, decide_eq_true_eq] at h
  obtain ⟨⟨⟨⟨⟨⟨⟨⟨⟨rfl, rfl⟩, rfl⟩, rfl⟩, rfl⟩, rfl⟩, rfl⟩, rfl⟩, rfl⟩, rfl⟩ := h
  rfl
def okIs (p : PR) (r : Ru) : Bool := match p with
  | .ok s => sameB s r
  | _ => false
theorem print_of {r : Ru} (h : okIs (parseL (joinP (lineP r))) r = true) : printP r ≠ none ∧ RuF r := by
  cases hp : parseL (joinP (lineP r)) with
  | bad c k => rw [hp] at h; cases h
  | empty => rw [hp] at h; cases h
  | ok s =>
    rw [hp] at h
    have e : s = r := sameB_eq h
    subst e
    rw [printP_some.2 ⟨rfl, hp⟩]
    exact ⟨by simp, parse_fields hp⟩
def nmC (i : Nat) : Tx := [115, byteOf (97 + i % 26), byteOf (97 + i / 26)]
def stR (i : Nat) : Ru := { kind := 8, name := nmC i, n := 1 }
def auR : Ru := { kind := 10, from_ := [115, 97, 97], to_ := [115, 98, 97] }
def stsL (n : Nat) : List (Ru × Nat) := (List.range n).map fun i => (stR i, 1 + i)
def limL (n m : Nat) : List (Ru × Nat) := stsL n ++ (List.range m).map fun i => (auR, 100 + i)
theorem st_all : ((List.range 26).all fun i => okIs (parseL (joinP (lineP (stR i)))) (stR i)) = true := by decide +kernel
theorem st_ok8 {i : Nat} (h : i < 26) : printP (stR i) ≠ none ∧ RuF (stR i) := print_of (List.all_eq_true.1 st_all i (List.mem_range.2 h))
theorem au_ok : printP auR ≠ none ∧ RuF auR := print_of (by decide +kernel)
theorem lim_ok {n m : Nat} (hn : n ≤ 26) : ∀ x ∈ limL n m, printP x.1 ≠ none ∧ RuF x.1 := by
  intro x hx
  rcases List.mem_append.1 hx with h | h
  · obtain ⟨i, hi, rfl⟩ := List.mem_map.1 h
    exact st_ok8 (by have := List.mem_range.1 hi; omega)
  · obtain ⟨i, hi, rfl⟩ := List.mem_map.1 h
    exact au_ok
def isBad (p : ChR) (l : Nat) (k : Int) : Bool := match p with
  | .bad a b => decide (a = l) && decide (b = k)
  | _ => false
theorem isBad_eq {p : ChR} {l : Nat} {k : Int} (h : isBad p l k = true) : p = .bad l k := by
  cases p with
  | bad a b =>
    simp only [isBad, Bool.and_eq_true, decide_eq_true_eq] at h
    rw [h.1, h.2]
  | arg => cases h
  | none => cases h
  | ok c => cases h
def isLen (p : ChR) (n m : Nat) : Bool := match p with
  | .ok c => decide (c.names.length = n) && decide (c.trans.length = m)
  | _ => false
theorem isLen_ok {p : ChR} {n m : Nat} (h : isLen p n m = true) : ∃ c, p = .ok c ∧ c.names.length = n ∧ c.trans.length = m := by
  cases p with
  | ok c =>
    simp only [isLen, Bool.and_eq_true, decide_eq_true_eq] at h
    exact ⟨c, rfl, h.1, h.2⟩
  | arg => cases h
  | none => cases h
  | bad a b => cases h
theorem lim_states {n m : Nat} (hn : n = 25) (hm : m = 47 ∨ m = 48 ∨ m = 49) : compL (limL n m) = .bad 25 5 := by
  subst hn
  rcases hm with rfl | rfl | rfl <;> exact isBad_eq (by decide +kernel)
theorem lim_trans {n : Nat} (hn : n = 23 ∨ n = 24) : compL (limL n 49) = .bad 148 5 := by
  rcases hn with rfl | rfl <;> exact isBad_eq (by decide +kernel)
theorem lim_none {n m : Nat} (hn : n = 23 ∨ n = 24) (hm : m = 47 ∨ m = 48) : ∃ c, compL (limL n m) = .ok c ∧ c.names.length = n ∧ c.trans.length = m := by
  rcases hn with rfl | rfl <;> rcases hm with rfl | rfl <;> exact isLen_ok (by decide +kernel)
theorem wake_none : compL [] = .none := by
  have h : valB ({} : Ch).kinds ({} : Ch).parents = false := by decide +kernel
  unfold compL
  rw [takeL, if_neg (by rw [h]; decide)]
def oneR : Ru := { kind := 8, name := [115], n := 1 }
theorem one_ok : printP oneR ≠ none ∧ RuF oneR := print_of (by decide +kernel)
theorem wake_one : ∃ c, compL [(oneR, 1)] = .ok c ∧ c.names.length = 1 ∧ c.trans.length = 0 := isLen_ok (by decide +kernel)
end Go.Proofs.YtnnmjmjbfeoggaaGreatDoor
namespace Go.Proofs.YtnnmjmjbfeoggaaGreatDoor
set_option maxRecDepth 100000
open Go.ChangeShapes Go.WideShapes Go.ChangeAt Go.RowKit

theorem conv_two (W : World) (b cap : Nat) (c d : Int) (h0 : 0 ≤ c) (h1 : c ≤ 255) (h2 : 0 ≤ d) (h3 : d ≤ 255) (hc : W.cell? ⟨b, 0, none⟩ = some (.int .u8 c)) (hd : W.cell? ⟨b, 1, none⟩ = some (.int .u8 d)) :
    (convert 95 9 (.slice (some ⟨b, 0, none⟩) 2 cap)).run Tryz.prog W = .ok (.string (bs [byteOf c.toNat, byteOf d.toNat])) W := by
  have := run_convert_bytes_back (P := Tryz.prog) W 95 9 5 ⟨b, 0, none⟩ cap [UInt8.ofNat c.toNat, UInt8.ofNat d.toNat] Tryz.underlying95 Tryz.underlying5 Tryz.underlying9 (by
    intro j hj
    have e1 : ((UInt8.ofNat c.toNat).toNat : Int) = c := by simp; omega
    have e2 : ((UInt8.ofNat d.toNat).toNat : Int) = d := by simp; omega
    simp at hj
    obtain rfl | rfl : j = 0 ∨ j = 1 := by omega
    · simp only [List.getElem_cons_zero, e1]; exact hc
    · simp only [List.getElem_cons_succ, List.getElem_cons_zero, e2]; exact hd)
  exact this

end Go.Proofs.YtnnmjmjbfeoggaaGreatDoor
namespace Go.Proofs.YtnnmjmjbfeoggaaGreatDoor
set_option maxRecDepth 100000
open Go.ChangeShapes Go.WideShapes Go.ChangeAt Go.RowKit

theorem keepAt (b : Nat) (l c k : Int) (w : World) (hF : FaultAt w b l c k) (hg : HandleAt w) :
    Calls Tryz.prog 31 #[.iface 124 (.pointer (some ⟨b, 0, none⟩))] w fun e w' => e = .returned (.tuple #[.int .i64 l, .int .i64 c, .bool true]) ∧ Below w.heap.size w w' := by
  obtain ⟨f0, f1, f2⟩ := hF
  have hbl := World.block_lt_of_cell? w _ f0
  have hgl := World.block_lt_of_cell? w _ hg
  have hg1 : HandleAt (w.alloc (.cells #[.pointer none] 124)) := (World.cell?_alloc_lt _ _ _ hgl).trans hg
  have hah := As_hit ⟨b, 0, none⟩ w.heap.size (.pointer none) (w.alloc (.cells #[.pointer none] 124)) hg1 (new_cell _ _ _ 0) (new_fz _ _ _ 0) (by simp only at hgl; omega)
  have HAH := Lib.hid hah
  clear hah
  go_enter Tryz.func31, Tryz.ntmps31
  go_wp2_with (go_at_call 71; refine HAH.out.mono ?_; rintro e w1 ⟨rfl, ht, hb⟩; have k0 := (hb.cell (p := ⟨b, 0, none⟩) hbl).trans ((World.cell?_alloc_lt _ _ _ hbl).trans f0); have k1 := (hb.cell (p := ⟨b, 1, none⟩) hbl).trans ((World.cell?_alloc_lt _ _ _ hbl).trans f1))
  go_quiet (fail)
  go_wp2
  go_ret3
  exact ⟨rfl, below_drewN (((Below.refl _ _).alloc (Nat.le_refl _) _).trans hb) _⟩
end Go.Proofs.YtnnmjmjbfeoggaaGreatDoor
namespace Go.Proofs.YtnnmjmjbfeoggaaGreatDoor
set_option maxRecDepth 100000
open Go.ChangeShapes Go.WideShapes Go.ChangeAt Go.RowKit

/-- rules without lists, in cells -/
theorem bare_in {w : World} {base cap : Nat} {A : Option Addr} {acc : List RL} (h : w.ownsRow base 28 11 (.slice A acc.length cap) acc.length (rcells acc)) (hl : ∀ x ∈ acc, x.2.2 = .slice none 0 0 ∧ x.1.list = []) : RIn w A acc :=
  rIn_of (base := base) (cap := cap) ⟨h, fun x hx => by rw [(hl x hx).1, (hl x hx).2]; exact ownL_nil _ _⟩
theorem Comp_bare (acc : List RL) (A : Option Addr) (cap base : Nat) (w : World) (h : w.ownsRow base 28 11 (.slice A acc.length cap) acc.length (rcells acc)) (hl : ∀ x ∈ acc, x.2.2 = .slice none 0 0 ∧ x.1.list = []) (ha : acc.length ≤ 1000)
    (hsm : ∀ x ∈ acc, Small x.1) (hpr : ∀ x ∈ acc.map er, printP x.1 ≠ none) (hg : HandleAt w) (ht : TabAt w) :
    Calls Tryz.prog 27 #[.slice A acc.length cap] w (CompTo (compL (acc.map er)) w) := by
  have h1 := Compile_any acc A cap w (bare_in h hl) ha (own_cap h) hsm (fun x hx => by rw [(hl x hx).2]; simp) (fun x hx B c e => by
    rw [(hl x hx).1] at e
    injection e with e1 e2 e3
    refine .inl ⟨(hl x hx).2, fun _ => e3.symm⟩) hg ht
  rwa [compR_ok hpr] at h1
theorem small_st {i : Nat} : Small (stR i) := ⟨by show ((-9223372036854775808 : Int) ≤ 1 ∧ (1 : Int) ≤ 9223372036854775807); decide, by show ((-9223372036854775808 : Int) ≤ 0 ∧ (0 : Int) ≤ 9223372036854775807); decide, by simp [stR, totR, nmC, sumL]⟩
theorem small_au : Small auR := ⟨by decide, by decide, by decide⟩
theorem small_one : Small oneR := ⟨by decide, by decide, by decide⟩
theorem flt_below {w w' : World} {b : Nat} {l c k : Int} (h : FaultAt w b l c k) (hl : b < w.heap.size) (hb : Below w.heap.size w w') : FaultAt w' b l c k :=
  ⟨(hb.cell (p := ⟨b, 0, none⟩) hl).trans h.1, (hb.cell (p := ⟨b, 1, none⟩) hl).trans h.2.1, (hb.cell (p := ⟨b, 2, none⟩) hl).trans h.2.2⟩
theorem flt_of {ln : Nat} {k : Int} {w : World} {e : Ending} {w' : World} (h : CompTo (.bad ln k) w e w') : Below w.heap.size w w' ∧ ∃ b, e = .returned (.tuple #[chZ, .iface 124 (.pointer (some ⟨b, 0, none⟩))]) ∧ b < w'.heap.size ∧ FaultAt w' b ln 1 k := by
  obtain ⟨h1, b, h2, _, h3, h4⟩ := h
  exact ⟨h1, b, h2, h3, h4⟩
theorem keepAt0 (w : World) : Calls Tryz.prog 31 #[.nilIface] w fun e w' => e = .returned (.tuple #[.int .i64 0, .int .i64 0, .bool false]) ∧ Below w.heap.size w w' := by
  have hb := Lib.hid (box_b w (.cells #[.pointer none] 124))
  go_enter Tryz.func31, Tryz.ntmps31
  go_wp2_with (go_at_call 71; refine (As_nil _ _).mono ?_; rintro e w1 ⟨rfl, rfl⟩)
  go_ret3
  exact ⟨rfl, hb.out⟩
theorem own_at1 {w : World} {b k : Nat} {v : Value} {l : List Tx} (h : OwnL w b v l) (hl : l.length = k) : w.ownsRow b 9 1 v k (scells l) := by subst hl; exact h
def accO : List RL := [(oneR, 1, .slice none 0 0)]
theorem Comp_one (W : World) (hg : HandleAt W) (ht : TabAt W) : ∃ c : Ch, c.names.length = 1 ∧ Calls Tryz.prog 27 #[.slice (some ⟨W.heap.size, 0, none⟩) 1 1] (W.alloc (.cells #[.int .i64 8, .string ⟨#[115]⟩, .slice none 0 0, .int .i64 1, .int .i64 0, .string ⟨#[]⟩, .string ⟨#[]⟩, .string ⟨#[]⟩, .string ⟨#[]⟩, .string ⟨#[]⟩, .int .i64 1] 28)) (CompTo (.ok c) (W.alloc (.cells #[.int .i64 8, .string ⟨#[115]⟩, .slice none 0 0, .int .i64 1, .int .i64 0, .string ⟨#[]⟩, .string ⟨#[]⟩, .string ⟨#[]⟩, .string ⟨#[]⟩, .string ⟨#[]⟩, .int .i64 1] 28))) := by
  obtain ⟨c, h1, h2, _⟩ := wake_one
  refine ⟨c, h2, ?_⟩
  have hb := box_b W (.cells #[.int .i64 8, .string ⟨#[115]⟩, .slice none 0 0, .int .i64 1, .int .i64 0, .string ⟨#[]⟩, .string ⟨#[]⟩, .string ⟨#[]⟩, .string ⟨#[]⟩, .string ⟨#[]⟩, .int .i64 1] 28)
  have h := Comp_bare accO (some ⟨W.heap.size, 0, none⟩) 1 W.heap.size (W.alloc (.cells #[.int .i64 8, .string ⟨#[115]⟩, .slice none 0 0, .int .i64 1, .int .i64 0, .string ⟨#[]⟩, .string ⟨#[]⟩, .string ⟨#[]⟩, .string ⟨#[]⟩, .string ⟨#[]⟩, .int .i64 1] 28)) (World.ownsRow_lit W #[.int .i64 8, .string ⟨#[115]⟩, .slice none 0 0, .int .i64 1, .int .i64 0, .string ⟨#[]⟩, .string ⟨#[]⟩, .string ⟨#[]⟩, .string ⟨#[]⟩, .string ⟨#[]⟩, .int .i64 1] 1 (Nat.le_refl _) (by unfold maxLen; omega) rfl) (fun x hx => by rw [List.mem_singleton.1 hx]; exact ⟨rfl, rfl⟩) (by decide) (fun x hx => by rw [List.mem_singleton.1 hx]; exact small_one) (fun x hx => by
    have e : x = (oneR, 1) := by simpa [accO, er] using hx
    rw [e]; exact one_ok.1) (hg.below' hb) (ht.below hb)
  have e : compL (accO.map er) = .ok c := h1
  rw [e] at h
  exact h
set_option maxHeartbeats 2000000 in
theorem wakes08 (w : World) (hg : HandleAt w) (ht : TabAt w) : Calls Tryz.prog 25 #[] w (TrueOn w) := by
  have c0 := Comp_bare [] none 0 0 w (World.ownsRow_nil _ _ _ _) (fun x hx => by cases hx) (by simp) (fun x hx => by cases hx) (fun x hx => by simp at hx) hg ht
  have e0 : compL (([] : List RL).map er) = .none := wake_none
  rw [e0] at c0
  have C0 : Hid (Calls Tryz.prog 27 #[.slice none 0 0] w (CompTo .none w)) := c0
  have HG := Lib.hid hg
  have HT := Lib.hid ht
  clear c0 e0 hg ht
  go_enter Tryz.func25, Tryz.ntmps25
  go_upto_region 2 with (go_at_call 27; refine C0.out.mono ?_; rintro e w1 ⟨hb1, fb, rfl, hf1, hf2, hF⟩)
  have hbx := box_b w1 (.cells #[.slice none 0 0, .slice none 0 0, .slice none 0 0, .slice none 0 0] 50)
  have hb2 := below_then hb1 hbx hb1.size
  have hF2 := flt_below hF hf2 hbx
  have hfl2 := Nat.lt_of_lt_of_le hf2 hbx.size
  clear hF hf2 hb1 hbx C0
  generalize w1.alloc (.cells #[.slice none 0 0, .slice none 0 0, .slice none 0 0, .slice none 0 0] 50) = w2 at *
  obtain ⟨c, hc1, hC⟩ := Comp_one w2 (HG.out.below' hb2) (HT.out.below hb2)
  have HC := Lib.hid hC
  have HC1 := Lib.hid hc1
  have hbr := box_b w2 (.cells #[.int .i64 8, .string ⟨#[115]⟩, .slice none 0 0, .int .i64 1, .int .i64 0, .string ⟨#[]⟩, .string ⟨#[]⟩, .string ⟨#[]⟩, .string ⟨#[]⟩, .string ⟨#[]⟩, .int .i64 1] 28)
  have HF2 := Lib.hid (flt_below hF2 hfl2 hbr)
  have hfl3 := Nat.lt_of_lt_of_le hfl2 hbr.size
  have HB2 := Lib.hid (below_then hb2 hbr hb2.size)
  clear hC hc1 hF2 hfl2 hb2 hbr
  go_upto_region 3 with (go_at_call 27; refine HC.out.mono ?_; rintro e w3 ⟨hb3, ⟨vN, vK, vP, vT, rfl, hA⟩, _, _⟩; have h9 := own_at1 hA.oN HC1.out; obtain ⟨AN, cN, rfl⟩ := own_slice h9; obtain ⟨AK, cK, rfl⟩ := own_slice hA.oK; obtain ⟨AP, cP, rfl⟩ := own_slice hA.oP; obtain ⟨AT, cT, rfl⟩ := own_slice hA.oT; have HF3 := Lib.hid (flt_below HF2.out hfl3 hb3); have hfl4 := Nat.lt_of_lt_of_le hfl3 hb3.size; have HB3 := Lib.hid (below_then HB2.out hb3 HB2.out.size); clear hb3 h9 hA)
  have R4 := heap_alloc_new w3 (.cells #[.slice AN 1 cN, .slice AK c.kinds.length cK, .slice AP c.parents.length cP, .slice AT c.trans.length cT] 50)
  have hb4 := box_b w3 (.cells #[.slice AN 1 cN, .slice AK c.kinds.length cK, .slice AP c.parents.length cP, .slice AT c.trans.length cT] 50)
  have q0 : (w3.alloc (.cells #[.slice AN 1 cN, .slice AK c.kinds.length cK, .slice AP c.parents.length cP, .slice AT c.trans.length cT] 50)).cell? ⟨w3.heap.size, 0, none⟩ = some (.slice AN 1 cN) := by rw [cell_of_row _ _ _ _ _ _ R4]; rfl
  have KI := Lib.hid (keepIs (.iface 124 (.pointer (some ⟨fb, 0, none⟩))) 3 3 (w3.alloc (.cells #[.slice AN 1 cN, .slice AK c.kinds.length cK, .slice AP c.parents.length cP, .slice AT c.trans.length cT] 50)) (.inr ⟨fb, 0, rfl, (flt_below HF3.out hfl4 hb4).2.2⟩) (by omega) (by omega))
  have HB4 := Lib.hid (below_then HB3.out hb4 HB3.out.size)
  clear R4 hb4 hfl4 hfl3 hf1
  go_wp2_with (go_at_call 14; refine KI.out.mono ?_; rintro e w5 ⟨rfl, rfl⟩)
  go_ret
  exact ⟨rfl, HB4.out⟩

end Go.Proofs.YtnnmjmjbfeoggaaGreatDoor
namespace Go.Proofs.YtnnmjmjbfeoggaaGreatDoor
set_option maxRecDepth 100000
open Go.ChangeShapes Go.WideShapes Go.ChangeAt Go.RowKit

theorem keepIsNil (w : World) : Calls Tryz.prog 14 #[.nilIface, .int .i64 0] w fun e w' => e = .returned (.bool true) ∧ w = w' := by
  go_enter Tryz.func14, Tryz.ntmps14
  go_wp2
  go_ret
  exact ⟨rfl, rfl⟩
/-- what Compile tells of a text that is no chart -/
theorem no_of {p : ChR} {ln er : Int} {w : World} {e : Ending} {w' : World} (hp : ∀ c, p ≠ .ok c) (hf : formB p ln er = true) (h : CompTo p w e w') :
    Below w.heap.size w w' ∧ ∃ b, e = .returned (.tuple #[chZ, .iface 124 (.pointer (some ⟨b, 0, none⟩))]) ∧ b < w'.heap.size ∧ FaultAt w' b ln (if ln < 1 then ln else 1) er := by
  cases p with
  | ok c => exact (hp c rfl).elim
  | arg => cases hf
  | none =>
    simp only [formB, Bool.and_eq_true, decide_eq_true_eq] at hf
    obtain ⟨rfl, rfl⟩ := hf
    obtain ⟨h1, b, h2, _, h3, h4⟩ := h
    exact ⟨h1, b, h2, h3, h4⟩
  | bad l c =>
    simp only [formB, Bool.and_eq_true, decide_eq_true_eq] at hf
    obtain ⟨⟨⟨⟨⟨rfl, h1⟩, rfl⟩, _⟩, _⟩, _⟩ := hf
    obtain ⟨h1, b, h2, _, h3, h4⟩ := h
    refine ⟨h1, b, h2, h3, ?_⟩
    rw [if_neg (by omega)]
    exact h4
theorem er_of {p : ChR} {ln er : Int} (hp : ∀ c, p ≠ .ok c) (hf : formB p ln er = true) : 1 ≤ er ∧ er ≤ 14 ∧ 0 ≤ ln := by
  cases p with
  | ok c => exact (hp c rfl).elim
  | arg => cases hf
  | none =>
    simp only [formB, Bool.and_eq_true, decide_eq_true_eq] at hf
    omega
  | bad l c =>
    simp only [formB, Bool.and_eq_true, decide_eq_true_eq] at hf
    omega
theorem nmX_bs {i : Nat} {z : Int} (h : z = i) : (⟨#[120]⟩ : ByteArray) ++ bs [byteOf (97 + z).toNat] = bs (nmX i) := by
  subst h
  rw [show (⟨#[120]⟩ : ByteArray) = bs [120] from rfl, bs_append, show (97 + (i : Int)).toNat = 97 + i by omega]
  rfl
/-- the table as the walk lays it -/
def formV (k : Tx) : List Value := [
  .string ⟨#[]⟩, .int .i64 (0), .int .i64 3,
  .string (⟨#[114, 111, 108, 101, 32]⟩ ++ bs k ++ ⟨#[10]⟩), .int .i64 (0), .int .i64 3,
  .string (⟨#[115, 116, 97, 116, 101, 32]⟩ ++ bs k ++ ⟨#[32, 112, 108, 97, 105, 110, 10, 115, 116, 97, 116, 101, 32]⟩ ++ bs k ++ ⟨#[32, 97, 108, 108, 10]⟩), .int .i64 (2), .int .i64 4,
  .string (⟨#[115, 116, 97, 116, 101, 32]⟩ ++ bs k ++ ⟨#[32, 112, 108, 97, 105, 110, 32, 105, 110, 32, 97, 10, 115, 116, 97, 116, 101, 32, 97, 32, 112, 108, 97, 105, 110, 10]⟩), .int .i64 (1), .int .i64 3,
  .string (⟨#[115, 116, 97, 116, 101, 32, 97, 32, 112, 108, 97, 105, 110, 10, 115, 116, 97, 116, 101, 32, 98, 32, 112, 108, 97, 105, 110, 32, 105, 110, 32, 97, 10, 115, 116, 97, 116, 101, 32, 104, 32, 112, 97, 115, 116, 32, 105, 110, 32, 97, 10, 115, 116, 97, 116, 101, 32]⟩ ++ bs k ++ ⟨#[32, 112, 108, 97, 105, 110, 32, 105, 110, 32, 104, 10]⟩), .int .i64 (4), .int .i64 1,
  .string ⟨#[115, 116, 97, 116, 101, 32, 104, 32, 112, 97, 115, 116, 10]⟩, .int .i64 (1), .int .i64 1,
  .string ⟨#[115, 116, 97, 116, 101, 32, 97, 32, 97, 108, 108, 10, 115, 116, 97, 116, 101, 32, 104, 32, 100, 101, 101, 112, 32, 105, 110, 32, 97, 10]⟩, .int .i64 (2), .int .i64 1,
  .string ⟨#[115, 116, 97, 116, 101, 32, 97, 32, 112, 108, 97, 105, 110, 10, 115, 116, 97, 116, 101, 32, 104, 32, 112, 97, 115, 116, 32, 105, 110, 32, 97, 10]⟩, .int .i64 (0), .int .i64 3,
  .string (⟨#[115, 116, 97, 116, 101, 32, 97, 32, 112, 108, 97, 105, 110, 10, 111, 110, 32, 101, 32, 102, 114, 111, 109, 32, 97, 32, 116, 111, 32]⟩ ++ bs k ++ ⟨#[10]⟩), .int .i64 (2), .int .i64 3,
  .string (⟨#[111, 110, 32, 101, 32, 102, 114, 111, 109, 32]⟩ ++ bs k ++ ⟨#[32, 116, 111, 32, 97, 10, 115, 116, 97, 116, 101, 32, 97, 32, 112, 108, 97, 105, 110, 10]⟩), .int .i64 (1), .int .i64 3,
  .string ⟨#[115, 116, 97, 116, 101, 32, 97, 32, 112, 108, 97, 105, 110, 10, 115, 116, 97, 116, 101, 32, 98, 32, 112, 108, 97, 105, 110, 32, 105, 110, 32, 97, 10, 115, 116, 97, 116, 101, 32, 104, 32, 112, 97, 115, 116, 32, 105, 110, 32, 97, 10, 10, 97, 117, 116, 111, 32, 102, 114, 111, 109, 32, 104, 32, 116, 111, 32, 97, 10]⟩, .int .i64 (5), .int .i64 1,
  .string ⟨#[111, 110, 32, 101, 32, 102, 114, 111, 109, 32, 97, 32, 116, 111, 32, 97, 10, 115, 116, 97, 116, 101, 32, 97, 32, 112, 108, 97, 105, 110, 10]⟩, .int .i64 (-1), .int .i64 0]
def formC (x : Tx × Int × Int) : List Value := [.string (bs x.1), .int .i64 x.2.1, .int .i64 x.2.2]
theorem formV_eq (k : Tx) : formV k = (formT k).flatMap formC := by
  have e : ∀ l : Tx, (⟨l.toArray⟩ : ByteArray) = bs l := fun _ => rfl
  simp only [formV, formT, List.flatMap_cons, List.flatMap_nil, formC, ← bs_append]
  rfl
def TabF (w : World) (b : Nat) (k : Tx) : Prop := b < w.heap.size ∧ ∀ j, j < 12 → ∃ x ∈ formT k, w.cell? ⟨b, j * 3, none⟩ = some (.string (bs x.1)) ∧ w.cell? ⟨b, j * 3 + 1, none⟩ = some (.int .i64 x.2.1) ∧ w.cell? ⟨b, j * 3 + 2, none⟩ = some (.int .i64 x.2.2)
theorem TabF.below {w w' : World} {b : Nat} {k : Tx} (h : TabF w b k) (hb : Below w.heap.size w w') : TabF w' b k :=
  ⟨Nat.lt_of_lt_of_le h.1 hb.size, fun j hj => let ⟨x, hx, a0, a1, a2⟩ := h.2 j hj; ⟨x, hx, (hb.cell (p := ⟨b, j * 3, none⟩) h.1).trans a0, (hb.cell (p := ⟨b, j * 3 + 1, none⟩) h.1).trans a1, (hb.cell (p := ⟨b, j * 3 + 2, none⟩) h.1).trans a2⟩⟩
theorem form_tab (w : World) (k : Tx) (e : TypeId) : TabF (w.alloc (.cells (formV k).toArray e)) w.heap.size k := by
  refine ⟨by simp, ?_⟩
  rw [formV_eq]
  have h := cells_new w ((formT k).flatMap formC) e
  intro j hj
  match j, hj with
  | 0, _ => exact ⟨_, List.getElem_mem (l := formT k) (n := 0) (by rw [form_len]; omega), h 0 _ rfl, h 1 _ rfl, h 2 _ rfl⟩
  | 1, _ => exact ⟨_, List.getElem_mem (l := formT k) (n := 1) (by rw [form_len]; omega), h 3 _ rfl, h 4 _ rfl, h 5 _ rfl⟩
  | 2, _ => exact ⟨_, List.getElem_mem (l := formT k) (n := 2) (by rw [form_len]; omega), h 6 _ rfl, h 7 _ rfl, h 8 _ rfl⟩
  | 3, _ => exact ⟨_, List.getElem_mem (l := formT k) (n := 3) (by rw [form_len]; omega), h 9 _ rfl, h 10 _ rfl, h 11 _ rfl⟩
  | 4, _ => exact ⟨_, List.getElem_mem (l := formT k) (n := 4) (by rw [form_len]; omega), h 12 _ rfl, h 13 _ rfl, h 14 _ rfl⟩
  | 5, _ => exact ⟨_, List.getElem_mem (l := formT k) (n := 5) (by rw [form_len]; omega), h 15 _ rfl, h 16 _ rfl, h 17 _ rfl⟩
  | 6, _ => exact ⟨_, List.getElem_mem (l := formT k) (n := 6) (by rw [form_len]; omega), h 18 _ rfl, h 19 _ rfl, h 20 _ rfl⟩
  | 7, _ => exact ⟨_, List.getElem_mem (l := formT k) (n := 7) (by rw [form_len]; omega), h 21 _ rfl, h 22 _ rfl, h 23 _ rfl⟩
  | 8, _ => exact ⟨_, List.getElem_mem (l := formT k) (n := 8) (by rw [form_len]; omega), h 24 _ rfl, h 25 _ rfl, h 26 _ rfl⟩
  | 9, _ => exact ⟨_, List.getElem_mem (l := formT k) (n := 9) (by rw [form_len]; omega), h 27 _ rfl, h 28 _ rfl, h 29 _ rfl⟩
  | 10, _ => exact ⟨_, List.getElem_mem (l := formT k) (n := 10) (by rw [form_len]; omega), h 30 _ rfl, h 31 _ rfl, h 32 _ rfl⟩
  | 11, _ => exact ⟨_, List.getElem_mem (l := formT k) (n := 11) (by rw [form_len]; omega), h 33 _ rfl, h 34 _ rfl, h 35 _ rfl⟩
theorem keepName9 (h : ByteArray) (n : Int) (w : World) (hv : (Lit.int .i64 n).wf = true) (hs : h.size ≤ 1000) :
    Calls Tryz.prog 38 #[.string h, .int .i64 n, .int .i64 9] w fun e w' => e = .returned (.string (h ++ bs [byteOf (97 + within n 9).toNat])) ∧ Below w.heap.size w w' := by
  have hb := within_bd n 9 (by omega)
  generalize hm : within n 9 = m at *
  have HM := Lib.hid hm
  clear hm
  have hw : (97 + m) % 256 = 97 + m := by omega
  have cv := fun W b cap => conv_one W b cap (97 + m) (by omega) (by omega)
  have hz : (bs [byteOf (97 + m).toNat]).size = 1 := rfl
  generalize bs [byteOf (97 + m).toNat] = T at *
  go_enter Tryz.func38, Tryz.ntmps38
  go_wp2_with (go_at_call 16; refine (Within_any _ _ _ hv (by omega) (by omega)).mono ?_; rintro e w' ⟨rfl, rfl⟩; rw [HM.out])
  go_ret
  exact ⟨rfl, (Below.refl _ _).alloc (Nat.le_refl _) _⟩
set_option maxHeartbeats 8000000 in
theorem cforms_walk (w : World) (a : Int) (ha : (Lit.int .i64 a).wf = true) (hg : HandleAt w) (ht : TabAt w) :
    Calls Tryz.prog 8 #[.int .i64 a] w (TrueOn w) := by
  have h1 := within_bd a 9 (by omega)
  obtain ⟨i, hi⟩ : ∃ i : Nat, within a 9 = i := ⟨(within a 9).toNat, by omega⟩
  have hi9 : i < 9 := by omega
  have HN : Hid (∀ W, Calls Tryz.prog 38 #[.string ⟨#[120]⟩, .int .i64 a, .int .i64 9] W fun e w' => e = .returned (.string (bs (nmX i))) ∧ Below W.heap.size W w') :=
    fun W => by rw [← nmX_bs hi]; exact keepName9 ⟨#[120]⟩ a W ha (by decide)
  have HG := Lib.hid hg
  have HT := Lib.hid ht
  have HF := Lib.hid (fun x hx => form_at hi9 (x := x) hx)
  have hsz : (bs (nmX i)).size = 2 := rfl
  generalize nmX i = k at *
  clear hi h1 hg ht
  go_enter Tryz.func8, Tryz.ntmps8
  go_upto_region 2 with (go_at_call 38; refine (HN.out _).mono ?_; rintro e w1 ⟨rfl, hb1⟩; have HB1 := Lib.hid hb1; clear hb1)
  go_upto_region 3 with fail
  go_loopw [48] (fun j wr => ∃ m : Nat, m ≤ 12 ∧ j = .int .i64 m ∧ Hid (TabF wr w1.heap.size k) ∧ Hid (Below w.heap.size w wr)) (fun j _ => 12 - (intOf j).toNat)
  case atStart => exact ⟨0, Nat.zero_le _, rfl, form_tab w1 k _, HB1.out.alloc HB1.out.size _⟩
  case round =>
    obtain ⟨m, hm, rfl, HTB, HB⟩ := hrel
    by_cases hlt : m < 12
    · have hli : (m : Int) < 12 := by omega
      obtain ⟨⟨t, ln, er⟩, hx, q0, q1, q2⟩ := HTB.out.2 m hlt
      have hfb := HF.out _ hx
      dsimp only at q0 q1 q2 hfb
      have PR : Hid (∀ W, Calls Tryz.prog 10 #[.string (bs t)] W (RulTo (polT t).l W)) := fun W => by have := PlayRules_any (bs t) W; rwa [list_bs] at this
      have CP : Hid (∀ (W : World) (base cap : Nat) (A : Option Addr) (acc : List RL), RowsAt W base (.slice A acc.length cap) acc → acc.map Go.Proofs.YtnnmjmjbfeoggaaGreatDoor.er = (polT t).l → HandleAt W → TabAt W → Calls Tryz.prog 27 #[.slice A acc.length cap] W (CompTo (compL (polT t).l) W)) :=
        fun W base cap A acc h1 h2 h3 h4 => Comp_pol acc A cap base W h1 h2 h3 h4
      have HX := Lib.hid hx
      have hbl := HTB.out.1
      have hbz := HB.out.size
      generalize compL (polT t).l = p at hfb CP
      generalize (polT t).l = tl at PR CP
      clear hx
      go_upto_region 5 with fail
      have R0 : Hid ((wr.alloc (.cells #[.string (bs t), .int .i64 ln, .int .i64 er] 85)).heap[wr.heap.size]? = some (.cells #[.string (bs t), .int .i64 ln, .int .i64 er] 85 (0, 0))) := heap_alloc_new _ _
      have HBX : Hid (Below wr.heap.size wr (wr.alloc (.cells #[.string (bs t), .int .i64 ln, .int .i64 er] 85))) := (Below.refl _ _).alloc (Nat.le_refl _) _
      have hlx : wr.heap.size < (wr.alloc (.cells #[.string (bs t), .int .i64 ln, .int .i64 er] 85)).heap.size := by simp
      generalize (wr.alloc (.cells #[.string (bs t), .int .i64 ln, .int .i64 er] 85)) = w2 at *
      have HB2 := Lib.hid (below_then HB.out HBX.out hbz)
      clear q0 q1 q2
      have x0 : w2.cell? ⟨wr.heap.size, 0, none⟩ = some (.string (bs t)) := by rw [cell_of_row _ _ _ _ _ _ R0.out]; rfl
      have HFB := Lib.hid hfb
      clear hfb
      by_cases hno : ∀ c, p ≠ .ok c
      · obtain ⟨he1, he2, hl0⟩ := er_of hno HFB.out
        go_upto_region 6 with (first
          | (go_at_call 10; refine (PR.out _).mono ?_; rintro e w3 ⟨hb3, v, acc, rfl, hacc, hr⟩; obtain ⟨A, cap, rfl⟩ := own_slice hr.1; have HB3 := Lib.hid hb3; have HBW := Lib.hid (below_then HB2.out hb3 HB2.out.size); have CC := Lib.hid (CP.out w3 _ cap A acc hr hacc (HG.out.below' HBW.out) (HT.out.below HBW.out)); clear hb3 hr hacc)
          | (go_at_call 27; refine CC.out.mono ?_; intro e w4 h9; obtain ⟨hb4, fb, e9, hf2, hF⟩ := no_of hno HFB.out h9; subst e9; clear h9))
        have hbx := box_b w4 (.cells #[.slice none 0 0, .slice none 0 0, .slice none 0 0, .slice none 0 0] 50)
        have hb24 := below_then HB3.out hb4 HB3.out.size
        have hb25 := below_then hb24 hbx hb24.size
        have hF5 := flt_below hF hf2 hbx
        have hfl5 := Nat.lt_of_lt_of_le hf2 hbx.size
        have HB5 := Lib.hid (below_then HB2.out hb25 HB2.out.size)
        have R5 := (hb25.block _ hlx).trans R0.out
        have hl5 := Nat.lt_of_lt_of_le hlx hb25.size
        clear hF hf2 hbx hb24 CC HBW HB3 hb4
        generalize w4.alloc (.cells #[.slice none 0 0, .slice none 0 0, .slice none 0 0, .slice none 0 0] 50) = w5 at *
        have HT5 : Hid (TabF w5 w1.heap.size k) := (HTB.out.below HBX.out).below hb25
        clear hb25
        have KA := Lib.hid (keepAt fb ln (if ln < 1 then ln else 1) er w5 hF5 (HG.out.below' HB5.out))
        have heb : (er != 0) = true := by rw [bne_iff_ne]; omega
        have h3 : ln = 0 ∨ ln = 1 ∨ 1 < ln := by omega
        have HF5 := Lib.hid hF5
        have HR5 := Lib.hid R5
        clear hF5 R5
        rcases h3 with rfl | rfl | h3
        · go_upto_region 7 with (go_at_call 31; refine KA.out.mono ?_; rintro e w6 ⟨rfl, hb6⟩)
          have R6 := (hb6.block _ hl5).trans HR5.out
          have x1 : w6.cell? ⟨wr.heap.size, 1, none⟩ = some (.int .i64 0) := by rw [cell_of_row _ _ _ _ _ _ R6]; rfl
          have x2 : w6.cell? ⟨wr.heap.size, 2, none⟩ = some (.int .i64 er) := by rw [cell_of_row _ _ _ _ _ _ R6]; rfl
          have HB6 := Lib.hid (below_then HB5.out hb6 HB5.out.size)
          have HT6 := Lib.hid (HT5.out.below hb6)
          have KI := Lib.hid (keepIs (.iface 124 (.pointer (some ⟨fb, 0, none⟩))) er er w6 (.inr ⟨fb, 0, rfl, (flt_below HF5.out hfl5 hb6).2.2⟩) (by omega) (by omega))
          clear R6 hb6
          go_wp2_with (go_at_call 14; refine KI.out.mono ?_; rintro e w7 ⟨rfl, rfl⟩)
          go_roundw
          case rel => exact ⟨m + 1, by omega, by go_num, HT6, HB6⟩
          case measure => simp [intOf]; omega
        · go_upto_region 7 with (go_at_call 31; refine KA.out.mono ?_; rintro e w6 ⟨rfl, hb6⟩)
          have R6 := (hb6.block _ hl5).trans HR5.out
          have x1 : w6.cell? ⟨wr.heap.size, 1, none⟩ = some (.int .i64 1) := by rw [cell_of_row _ _ _ _ _ _ R6]; rfl
          have x2 : w6.cell? ⟨wr.heap.size, 2, none⟩ = some (.int .i64 er) := by rw [cell_of_row _ _ _ _ _ _ R6]; rfl
          have HB6 := Lib.hid (below_then HB5.out hb6 HB5.out.size)
          have HT6 := Lib.hid (HT5.out.below hb6)
          have KI := Lib.hid (keepIs (.iface 124 (.pointer (some ⟨fb, 0, none⟩))) er er w6 (.inr ⟨fb, 0, rfl, (flt_below HF5.out hfl5 hb6).2.2⟩) (by omega) (by omega))
          clear R6 hb6
          go_wp2_with (go_at_call 14; refine KI.out.mono ?_; rintro e w7 ⟨rfl, rfl⟩)
          go_roundw
          case rel => exact ⟨m + 1, by omega, by go_num, HT6, HB6⟩
          case measure => simp [intOf]; omega
        · have h1l : ¬ ln < 1 := by omega
          rw [if_neg h1l] at KA
          go_upto_region 7 with (go_at_call 31; refine KA.out.mono ?_; rintro e w6 ⟨rfl, hb6⟩)
          have R6 := (hb6.block _ hl5).trans HR5.out
          have x1 : w6.cell? ⟨wr.heap.size, 1, none⟩ = some (.int .i64 ln) := by rw [cell_of_row _ _ _ _ _ _ R6]; rfl
          have x2 : w6.cell? ⟨wr.heap.size, 2, none⟩ = some (.int .i64 er) := by rw [cell_of_row _ _ _ _ _ _ R6]; rfl
          have HB6 := Lib.hid (below_then HB5.out hb6 HB5.out.size)
          have HT6 := Lib.hid (HT5.out.below hb6)
          have KI := Lib.hid (keepIs (.iface 124 (.pointer (some ⟨fb, 0, none⟩))) er er w6 (.inr ⟨fb, 0, rfl, (flt_below HF5.out hfl5 hb6).2.2⟩) (by omega) (by omega))
          clear R6 hb6
          go_wp2_with (go_at_call 14; refine KI.out.mono ?_; rintro e w7 ⟨rfl, rfl⟩)
          go_roundw
          case rel => exact ⟨m + 1, by omega, by go_num, HT6, HB6⟩
          case measure => simp [intOf]; omega
      · obtain ⟨c, rfl⟩ : ∃ c, p = .ok c := Classical.byContradiction fun h => hno fun c e => h ⟨c, e⟩
        have hfo := HFB.out
        simp only [formB, Bool.and_eq_true, decide_eq_true_eq] at hfo
        obtain ⟨rfl, rfl⟩ := hfo
        go_upto_region 6 with (first
          | (go_at_call 10; refine (PR.out _).mono ?_; rintro e w3 ⟨hb3, v, acc, rfl, hacc, hr⟩; obtain ⟨A, cap, rfl⟩ := own_slice hr.1; have HB3 := Lib.hid hb3; have HBW := Lib.hid (below_then HB2.out hb3 HB2.out.size); have CC := Lib.hid (CP.out w3 _ cap A acc hr hacc (HG.out.below' HBW.out) (HT.out.below HBW.out)); clear hb3 hr hacc)
          | (go_at_call 27; refine CC.out.mono ?_; rintro e w4 ⟨hb4, ⟨vN, vK, vP, vT, rfl, hA⟩, _⟩; obtain ⟨AN, cN, rfl⟩ := own_slice hA.oN; obtain ⟨AK, cK, rfl⟩ := own_slice hA.oK; obtain ⟨AP, cP, rfl⟩ := own_slice hA.oP; obtain ⟨AT, cT, rfl⟩ := own_slice hA.oT; clear hA))
        have hbx := box_b w4 (.cells #[.slice AN c.names.length cN, .slice AK c.kinds.length cK, .slice AP c.parents.length cP, .slice AT c.trans.length cT] 50)
        have hb24 := below_then HB3.out hb4 HB3.out.size
        have hb25 := below_then hb24 hbx hb24.size
        have HB5 := Lib.hid (below_then HB2.out hb25 HB2.out.size)
        have R5 := (hb25.block _ hlx).trans R0.out
        have hl5 := Nat.lt_of_lt_of_le hlx hb25.size
        clear hbx hb24 CC HBW HB3 hb4
        generalize w4.alloc (.cells #[.slice AN c.names.length cN, .slice AK c.kinds.length cK, .slice AP c.parents.length cP, .slice AT c.trans.length cT] 50) = w5 at *
        have HT5 : Hid (TabF w5 w1.heap.size k) := (HTB.out.below HBX.out).below hb25
        clear hb25
        go_upto_region 7 with (go_at_call 31; refine (keepAt0 _).mono ?_; rintro e w6 ⟨rfl, hb6⟩)
        have R6 := (hb6.block _ hl5).trans R5
        have x2 : w6.cell? ⟨wr.heap.size, 2, none⟩ = some (.int .i64 0) := by rw [cell_of_row _ _ _ _ _ _ R6]; rfl
        have HB6 := Lib.hid (below_then HB5.out hb6 HB5.out.size)
        have HT6 := Lib.hid (HT5.out.below hb6)
        clear R5 R6 hb6
        go_wp2_with (go_at_call 14; refine (keepIsNil _).mono ?_; rintro e w7 ⟨rfl, rfl⟩)
        go_roundw
        case rel => exact ⟨m + 1, by omega, by go_num, HT6, HB6⟩
        case measure => simp [intOf]; omega
    · go_wp2_with (go_at_call 25; refine (wakes08 _ (HG.out.below' HB.out) (HT.out.below HB.out)).mono ?_; rintro e w5 ⟨rfl, hb5⟩)
      go_ret
      exact ⟨rfl, below_then HB.out hb5 HB.out.size⟩
end Go.Proofs.YtnnmjmjbfeoggaaGreatDoor

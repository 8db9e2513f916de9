/-
  The lines of RuleNames, plainly: their words are read as the rules.
-/
import Derived.Test.YtlbhgjilgdmedaaGreatDoorPlain04
namespace Go.Proofs.YtlbhgjilgdmedaaGreatDoor
set_option maxRecDepth 100000

theorem num2 : isNum [50] = true ∧ valL [50] = 2 := by decide
theorem num77 : isNum [55, 55] = true ∧ valL [55, 55] = 77 := by decide
structure NamesH (x y z d : Tx) (v : Int) : Prop where
  nx : nameL x = true
  ny : nameL y = true
  nz : nameL z = true
  xy : x ≠ y
  xz : x ≠ z
  yz : y ≠ z
  nd : isNum d = true
  nv : (valL d : Int) = v
  v1 : 1 ≤ v
  v2 : v ≤ 9
theorem nameB_gb {b : UInt8} (h : nameB b.toNat = true) : gb b = true := by
  simp [nameB, digB, gb] at h ⊢; omega
theorem name_gw {t : Tx} (h : nameL t = true) : gw t = true := by
  simp only [nameL, allB, Bool.and_eq_true, List.all_eq_true, decide_eq_true_eq] at h
  simp only [gw, Bool.and_eq_true, List.all_eq_true]
  refine ⟨?_, fun b hb => nameB_gb (h.2 b hb)⟩
  cases t with
  | nil => simp at h
  | cons a r => rfl
theorem digB_gb {b : UInt8} (h : digB b.toNat = true) : gb b = true := by
  simp [digB, gb] at h ⊢; omega
theorem num_gw {t : Tx} (h : isNum t = true) : gw t = true := by
  simp only [isNum, allB, Bool.and_eq_true, List.all_eq_true, decide_eq_true_eq] at h
  simp only [gw, Bool.and_eq_true, List.all_eq_true]
  refine ⟨?_, fun b hb => digB_gb (h.2 b hb)⟩
  cases t with
  | nil => simp at h
  | cons a r => rfl

theorem rp_role {x y z d : Tx} {v : Int} (h : NamesH x y z d v) : parseL (joinP [[114, 111, 108, 101], x, [62], y, z]) = .ok { kind := 1, name := x, list := [y, z] } := by
  obtain ⟨hx, hy, hz, xy, xz, yz, hd, hv, v1, v2⟩ := h
  have n2 := num2
  have n7 := num77
  refine parse_join (by simp) ?_ ?_ ?_
  · intro t ht
    simp only [List.mem_cons, List.mem_nil_iff, or_false] at ht
    rcases ht with rfl | rfl | rfl | rfl | rfl
    all_goals first | decide | exact name_gw (by assumption) | exact num_gw (by assumption)
  · simp [ruleP, bodyP, choiceP, roleP, userP, ssdP, exclP, lendP, stateP, onP, autoP, afterP, fromToP, fixedP, optionP, nameP, numberP, namesP, pk, tk, idx, kindT, stateT, hx, hy, hz, hd, hv, n2, n7, numV]
  · simp [wrongT, listT, dupT, timeP, xy, xz, yz, Ne.symm xy, Ne.symm xz, Ne.symm yz]
    try omega

theorem rp_user {x y z d : Tx} {v : Int} (h : NamesH x y z d v) : parseL (joinP [[117, 115, 101, 114], x, y]) = .ok { kind := 2, name := x, list := [y] } := by
  obtain ⟨hx, hy, hz, xy, xz, yz, hd, hv, v1, v2⟩ := h
  have n2 := num2
  have n7 := num77
  refine parse_join (by simp) ?_ ?_ ?_
  · intro t ht
    simp only [List.mem_cons, List.mem_nil_iff, or_false] at ht
    rcases ht with rfl | rfl | rfl
    all_goals first | decide | exact name_gw (by assumption) | exact num_gw (by assumption)
  · simp [ruleP, bodyP, choiceP, roleP, userP, ssdP, exclP, lendP, stateP, onP, autoP, afterP, fromToP, fixedP, optionP, nameP, numberP, namesP, pk, tk, idx, kindT, stateT, hx, hy, hz, hd, hv, n2, n7, numV]
  · simp [wrongT, listT, dupT, timeP, xy, xz, yz, Ne.symm xy, Ne.symm xz, Ne.symm yz]
    try omega

theorem rp_perm {x y z d : Tx} {v : Int} (h : NamesH x y z d v) : parseL (joinP [[112, 101, 114, 109], x]) = .ok { kind := 3, name := x } := by
  obtain ⟨hx, hy, hz, xy, xz, yz, hd, hv, v1, v2⟩ := h
  have n2 := num2
  have n7 := num77
  refine parse_join (by simp) ?_ ?_ ?_
  · intro t ht
    simp only [List.mem_cons, List.mem_nil_iff, or_false] at ht
    rcases ht with rfl | rfl
    all_goals first | decide | exact name_gw (by assumption) | exact num_gw (by assumption)
  · simp [ruleP, bodyP, choiceP, roleP, userP, ssdP, exclP, lendP, stateP, onP, autoP, afterP, fromToP, fixedP, optionP, nameP, numberP, namesP, pk, tk, idx, kindT, stateT, hx, hy, hz, hd, hv, n2, n7, numV]
  · simp [wrongT, listT, dupT, timeP, xy, xz, yz, Ne.symm xy, Ne.symm xz, Ne.symm yz]
    try omega

theorem rp_ssd {x y z d : Tx} {v : Int} (h : NamesH x y z d v) : parseL (joinP [[115, 115, 100], [50], x, y]) = .ok { kind := 4, n := 2, list := [x, y] } := by
  obtain ⟨hx, hy, hz, xy, xz, yz, hd, hv, v1, v2⟩ := h
  have n2 := num2
  have n7 := num77
  refine parse_join (by simp) ?_ ?_ ?_
  · intro t ht
    simp only [List.mem_cons, List.mem_nil_iff, or_false] at ht
    rcases ht with rfl | rfl | rfl | rfl
    all_goals first | decide | exact name_gw (by assumption) | exact num_gw (by assumption)
  · simp [ruleP, bodyP, choiceP, roleP, userP, ssdP, exclP, lendP, stateP, onP, autoP, afterP, fromToP, fixedP, optionP, nameP, numberP, namesP, pk, tk, idx, kindT, stateT, hx, hy, hz, hd, hv, n2, n7, numV]
  · simp [wrongT, listT, dupT, timeP, xy, xz, yz, Ne.symm xy, Ne.symm xz, Ne.symm yz]
    try omega

end Go.Proofs.YtlbhgjilgdmedaaGreatDoor

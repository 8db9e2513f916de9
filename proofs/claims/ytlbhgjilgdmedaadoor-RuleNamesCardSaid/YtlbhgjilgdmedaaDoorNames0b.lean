/-
  The lines of RuleNames, plainly: their words are read as the rules: further kinds.
-/
import Derived.Test.YtlbhgjilgdmedaaDoorNames0
namespace Go.Proofs.YtlbhgjilgdmedaaDoor
set_option maxRecDepth 100000

theorem rp_dsd {x y z d : Tx} {v : Int} (h : NamesH x y z d v) : parseL (joinP [[100, 115, 100], [50], x, y, z]) = .ok { kind := 5, n := 2, list := [x, y, z] } := by
  obtain ⟨hx, hy, hz, xy, xz, yz, hd, hv, v1, v2⟩ := h
  have n2 := num2
  have n7 := num77
  refine parse_join (by simp) ?_ ?_ ?_
  · intro t ht
    simp only [List.mem_cons, List.mem_nil_iff, or_false] at ht
    rcases ht with rfl | rfl | rfl | rfl | rfl
    all_goals first | decide | exact name_gw (by assumption) | exact num_gw (by assumption)
  · simp [ruleP, bodyP, choiceP, roleP, userP, ssdP, exclP, lendP, stateP, onP, autoP, afterP, fromToP, fixedP, optionP, nameP, numberP, namesP, pk, tk, idx, kindT, stateT, hx, hy, hz, hd, hv, n2, n7, numV]
  · simp [wrongT, listT, dupT, timeP, xy, xz, yz, Ne.symm xy, Ne.symm xz, Ne.symm yz]
    try omega

theorem rp_excl {x y z d : Tx} {v : Int} (h : NamesH x y z d v) : parseL (joinP [[101, 120, 99, 108, 117, 115, 105, 118, 101], x, y]) = .ok { kind := 6, list := [x, y] } := by
  obtain ⟨hx, hy, hz, xy, xz, yz, hd, hv, v1, v2⟩ := h
  have n2 := num2
  have n7 := num77
  refine parse_join (by simp) ?_ ?_ ?_
  · intro t ht
    simp only [List.mem_cons, List.mem_nil_iff, or_false] at ht
    rcases ht with rfl | rfl | rfl
    all_goals first | decide | exact name_gw (by assumption) | exact num_gw (by assumption)
  · simp [ruleP, bodyP, choiceP, roleP, userP, ssdP, exclP, lendP, stateP, onP, autoP, afterP, fromToP, fixedP, optionP, nameP, numberP, namesP, pk, tk, idx, kindT, stateT, hx, hy, hz, hd, hv, n2, n7, numV]
  · simp [wrongT, listT, dupT, timeP, xy, xz, yz, Ne.symm xy, Ne.symm xz, Ne.symm yz]
    try omega

theorem rp_lend {x y z d : Tx} {v : Int} (h : NamesH x y z d v) : parseL (joinP [[108, 101, 110, 100], x, d, [55, 55]]) = .ok { kind := 7, name := x, n := v, m := 77 } := by
  obtain ⟨hx, hy, hz, xy, xz, yz, hd, hv, v1, v2⟩ := h
  have n2 := num2
  have n7 := num77
  refine parse_join (by simp) ?_ ?_ ?_
  · intro t ht
    simp only [List.mem_cons, List.mem_nil_iff, or_false] at ht
    rcases ht with rfl | rfl | rfl | rfl
    all_goals first | decide | exact name_gw (by assumption) | exact num_gw (by assumption)
  · simp [ruleP, bodyP, choiceP, roleP, userP, ssdP, exclP, lendP, stateP, onP, autoP, afterP, fromToP, fixedP, optionP, nameP, numberP, namesP, pk, tk, idx, kindT, stateT, hx, hy, hz, hd, hv, n2, n7, numV]
  · simp [wrongT, listT, dupT, timeP, xy, xz, yz, Ne.symm xy, Ne.symm xz, Ne.symm yz]
    try omega

theorem rp_state {x y z d : Tx} {v : Int} (h : NamesH x y z d v) : parseL (joinP [[115, 116, 97, 116, 101], x, [112, 97, 115, 116], [105, 110], y]) = .ok { kind := 8, name := x, n := 3, in_ := y } := by
  obtain ⟨hx, hy, hz, xy, xz, yz, hd, hv, v1, v2⟩ := h
  have n2 := num2
  have n7 := num77
  refine parse_join (by simp) ?_ ?_ ?_
  · intro t ht
    simp only [List.mem_cons, List.mem_nil_iff, or_false] at ht
    rcases ht with rfl | rfl | rfl | rfl | rfl
    all_goals first | decide | exact name_gw (by assumption) | exact num_gw (by assumption)
  · simp [ruleP, bodyP, choiceP, roleP, userP, ssdP, exclP, lendP, stateP, onP, autoP, afterP, fromToP, fixedP, optionP, nameP, numberP, namesP, pk, tk, idx, kindT, stateT, hx, hy, hz, hd, hv, n2, n7, numV]
  · simp [wrongT, listT, dupT, timeP, xy, xz, yz, Ne.symm xy, Ne.symm xz, Ne.symm yz]
    try omega

end Go.Proofs.YtlbhgjilgdmedaaDoor

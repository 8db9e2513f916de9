/-
  The lines of RuleNames, plainly: their words are read as the rules: further kinds.
-/
import Derived.Test.YtlbhgjilgdmedaaDoorNames0b
namespace Go.Proofs.YtlbhgjilgdmedaaDoor
set_option maxRecDepth 100000

theorem rp_on {x y z d : Tx} {v : Int} (h : NamesH x y z d v) : parseL (joinP [[111, 110], x, [102, 114, 111, 109], y, [116, 111], z, [98, 121], x, [116, 97, 115, 107], y]) = .ok { kind := 9, name := x, from_ := y, to_ := z, by_ := x, task := y } := by
  obtain ⟨hx, hy, hz, xy, xz, yz, hd, hv, v1, v2⟩ := h
  have n2 := num2
  have n7 := num77
  refine parse_join (by simp) ?_ ?_ ?_
  · intro t ht
    simp only [List.mem_cons, List.mem_nil_iff, or_false] at ht
    rcases ht with rfl | rfl | rfl | rfl | rfl | rfl | rfl | rfl | rfl | rfl
    all_goals first | decide | exact name_gw (by assumption) | exact num_gw (by assumption)
  · simp [ruleP, bodyP, choiceP, roleP, userP, ssdP, exclP, lendP, stateP, onP, autoP, afterP, fromToP, fixedP, optionP, nameP, numberP, namesP, pk, tk, idx, kindT, stateT, hx, hy, hz, hd, hv, n2, n7, numV]
  · simp [wrongT, listT, dupT, timeP, xy, xz, yz, Ne.symm xy, Ne.symm xz, Ne.symm yz]
    try omega

theorem rp_auto {x y z d : Tx} {v : Int} (h : NamesH x y z d v) : parseL (joinP [[97, 117, 116, 111], [102, 114, 111, 109], x, [116, 111], y]) = .ok { kind := 10, from_ := x, to_ := y } := by
  obtain ⟨hx, hy, hz, xy, xz, yz, hd, hv, v1, v2⟩ := h
  have n2 := num2
  have n7 := num77
  refine parse_join (by simp) ?_ ?_ ?_
  · intro t ht
    simp only [List.mem_cons, List.mem_nil_iff, or_false] at ht
    rcases ht with rfl | rfl | rfl | rfl | rfl
    all_goals first | decide | exact name_gw (by assumption) | exact num_gw (by assumption)
  · simp [ruleP, bodyP, choiceP, roleP, userP, ssdP, exclP, lendP, stateP, onP, autoP, afterP, fromToP, fixedP, optionP, nameP, numberP, namesP, pk, tk, idx, kindT, stateT, hx, hy, hz, hd, hv, n2, n7, numV]
  · simp [wrongT, listT, dupT, timeP, xy, xz, yz, Ne.symm xy, Ne.symm xz, Ne.symm yz]
    try omega

theorem rp_after {x y z d : Tx} {v : Int} (h : NamesH x y z d v) : parseL (joinP [[97, 102, 116, 101, 114], d, [102, 114, 111, 109], x, [116, 111], y]) = .ok { kind := 11, n := v, from_ := x, to_ := y } := by
  obtain ⟨hx, hy, hz, xy, xz, yz, hd, hv, v1, v2⟩ := h
  have n2 := num2
  have n7 := num77
  refine parse_join (by simp) ?_ ?_ ?_
  · intro t ht
    simp only [List.mem_cons, List.mem_nil_iff, or_false] at ht
    rcases ht with rfl | rfl | rfl | rfl | rfl | rfl
    all_goals first | decide | exact name_gw (by assumption) | exact num_gw (by assumption)
  · simp [ruleP, bodyP, choiceP, roleP, userP, ssdP, exclP, lendP, stateP, onP, autoP, afterP, fromToP, fixedP, optionP, nameP, numberP, namesP, pk, tk, idx, kindT, stateT, hx, hy, hz, hd, hv, n2, n7, numV]
  · simp [wrongT, listT, dupT, timeP, xy, xz, yz, Ne.symm xy, Ne.symm xz, Ne.symm yz]
    try omega

end Go.Proofs.YtlbhgjilgdmedaaDoor

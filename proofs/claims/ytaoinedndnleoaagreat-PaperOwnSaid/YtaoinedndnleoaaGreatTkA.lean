import Derived.Test.YtaoinedndnleoaaGreatRdrJ
import Derived.Test.YtaoinedndnleoaaGreatSh1b
import Derived.Test.YtaoinedndnleoaaGreatOwnSome
import Derived.Test.YtaoinedndnleoaaGreatSm0
import Derived.Test.YtaoinedndnleoaaGreatCh9
import Derived.Test.YtaoinedndnleoaaGreatPpl
import Derived.Test.YtaoinedndnleoaaGreatSt1
import Derived.Test.YtaoinedndnleoaaGreatEnt3
import Derived.Test.YtaoinedndnleoaaGreatRc2e
import Derived.Test.YtaoinedndnleoaaGreatRc3
import Derived.Test.YtaoinedndnleoaaGreatSh7
import Derived.Deep.RegionHeld3
import Derived.Test.YtaoinedndnleoaaGreatTk
import Derived.Test.YtaoinedndnleoaaGreatSt12
namespace Go.Proofs.YtaoinedndnleoaaGreat
set_option maxRecDepth 100000
open Go.ChangeShapes Go.WideShapes Go.ChangeAt Go.RowKit
theorem lines_le {x : Tx} : ∀ {ls : List Tx}, x ∈ ls → x.length ≤ linesLen ls
 | a :: ls, h => by
  simp only [linesLen, List.map_cons, List.sum_cons]
  rcases List.mem_cons.1 h with rfl | h
  ·omega
  ·have := lines_le h
   unfold linesLen at this
   omega
theorem pol_facts (s : Tx) : (polT s).l.length ≤ 160 ∧ ∀ x ∈ (polT s).l, Small x.1 ∧ x.1.list.length ≤ 4096 ∧ printP x.1 ≠ none := by
 cases hp : polT s with
 | limit => exact ⟨Nat.zero_le _, fun x hx => by cases hx⟩
 | bad a b c => exact ⟨Nat.zero_le _, fun x hx => by cases hx⟩
 | ok l =>
  have h0 := polT_all hp
  refine ⟨h0.2, fun x hx => ?_⟩
  have h := hp
  unfold polT at h
  split at h
  ·cases h
  ·obtain ⟨us, e, h1, h2, _⟩ := pol_told _ _ _ _ h
   rw [List.nil_append] at e
   subst e
   rw [linesLen_all] at h2
   have h3 : (joinP (lineP x.1)).length ≤ linesLen (l.map fun x => joinP (lineP x.1)) := lines_le (List.mem_map_of_mem (f := fun x : Ru × Nat => joinP (lineP x.1)) hx)
   refine ⟨small_of (h1 x hx).1 (by omega), (h0.1 x hx).1, ?_⟩
   rw [printP_some.2 ⟨rfl, (h1 x hx).1⟩]
   simp
end Go.Proofs.YtaoinedndnleoaaGreat
namespace Go.Proofs.YtaoinedndnleoaaGreat
set_option maxRecDepth 100000
theorem pol_fields (s : Tx) : ∀ x ∈ (polT s).l, RuF x.1 := by
 intro x hx
 cases hp : polT s with
 | limit => rw [hp] at hx; cases hx
 | bad a b c => rw [hp] at hx; cases hx
 | ok l =>
  rw [hp] at hx
  have h := hp
  unfold polT at h
  split at h
  ·cases h
  ·obtain ⟨us, e, h1, h2, _⟩ := pol_told _ _ _ _ h
   rw [List.nil_append] at e
   subst e
   exact parse_fields (h1 x hx).1
end Go.Proofs.YtaoinedndnleoaaGreat
namespace Go.Proofs.YtaoinedndnleoaaGreat
set_option maxRecDepth 100000
open Go.ChangeShapes Go.WideShapes Go.ChangeAt Go.RowKit
def chL1 : Tx := [114, 111, 108, 101, 32, 114, 97]
def chL2 : Tx := [112, 101, 114, 109, 32, 112, 97, 32, 114, 97]
def chL3 : Tx := [112, 101, 114, 109, 32, 112, 98]
def chL4 : Tx := [112, 101, 114, 109, 32, 112, 99, 32, 114, 97]
def chPre : Tx := chL1 ++ 10 :: (chL2 ++ 10 :: (chL3 ++ 10 :: (chL4 ++ [10])))
theorem pre_app (u : Tx) : chPre ++ u = chL1 ++ 10 :: (chL2 ++ 10 :: (chL3 ++ 10 :: (chL4 ++ 10 :: u))) := by simp [chPre]
theorem parse_c1 : parseL chL1 = .ok { kind := 1, name := [114, 97] } :=
 parse_join (l := [[114, 111, 108, 101], [114, 97]]) (by simp) (by decide) (by kernel_rfl) (by kernel_rfl)
theorem parse_c2 : parseL chL2 = .ok { kind := 3, name := [112, 97], list := [[114, 97]] } :=
 parse_join (l := [[112, 101, 114, 109], [112, 97], [114, 97]]) (by simp) (by decide) (by kernel_rfl) (by kernel_rfl)
theorem parse_c3 : parseL chL3 = .ok { kind := 3, name := [112, 98] } :=
 parse_join (l := [[112, 101, 114, 109], [112, 98]]) (by simp) (by decide) (by kernel_rfl) (by kernel_rfl)
theorem parse_c4 : parseL chL4 = .ok { kind := 3, name := [112, 99], list := [[114, 97]] } :=
 parse_join (l := [[112, 101, 114, 109], [112, 99], [114, 97]]) (by simp) (by decide) (by kernel_rfl) (by kernel_rfl)
theorem pol_pre : ∀ (ls : List Tx) (n : Nat) (acc l : List (Ru × Nat)), polL ls n acc = .ok l → ∃ r, l = acc ++ r ∧ r.length ≤ ls.length
 | [], _, acc, l, h => by rw [polL] at h; cases h; exact ⟨[], by simp, by simp⟩
 | t :: r, n, acc, l, h => by
  rw [polL] at h
  cases hp : parseL t with
  | bad c k => rw [hp] at h; cases h
  | empty => rw [hp] at h; obtain ⟨s, e, hl⟩ := pol_pre r _ _ _ h; exact ⟨s, e, by simp only [List.length_cons]; omega⟩
  | ok u =>
   rw [hp] at h
   simp only at h
   split at h
   ·cases h
   ·obtain ⟨s, e, hl⟩ := pol_pre r _ _ _ h
    exact ⟨(u, n) :: s, by rw [e]; simp, by simp only [List.length_cons]; omega⟩
theorem few_trs {u : Tx} {k : Nat} (hk : u.count 10 ≤ k) {l : List (Ru × Nat)} (h : polT (chPre ++ u) = .ok l) : (trsOf l).length ≤ k + 1 := by
 unfold polT at h
 split at h
 ·cases h
 have lc := lines_count u
 rw [pre_app, lines_more, lines_more, lines_more, lines_more, lines_plain (l := chL1) (by decide), lines_plain (l := chL2) (by decide), lines_plain (l := chL3) (by decide), lines_plain (l := chL4) (by decide)] at h
 simp only [List.cons_append, List.nil_append] at h
 rw [polL, parse_c1] at h
 simp only [List.length_nil, List.nil_append] at h
 rw [if_neg (by omega), polL, parse_c2] at h
 simp only [List.length_cons, List.length_nil, List.cons_append, List.nil_append] at h
 rw [if_neg (by omega), polL, parse_c3] at h
 simp only [List.length_cons, List.length_nil, List.cons_append, List.nil_append] at h
 rw [if_neg (by omega), polL, parse_c4] at h
 simp only [List.length_cons, List.length_nil, List.cons_append, List.nil_append] at h
 rw [if_neg (by omega)] at h
 obtain ⟨r, rfl, hr⟩ := pol_pre _ _ _ _ h
 have h2 := List.length_filter_le (fun x : Ru × Nat => decide (isTr x.1)) r
 have h3 : trsOf (([({ kind := 1, name := [114, 97] }, 1), ({ kind := 3, name := [112, 97], list := [[114, 97]] }, 1 + 1), ({ kind := 3, name := [112, 98] }, 1 + 1 + 1), ({ kind := 3, name := [112, 99], list := [[114, 97]] }, 1 + 1 + 1 + 1)] : List (Ru × Nat)) ++ r) = trsOf r := by
  unfold trsOf
  rw [List.filter_append]
  rfl
 simp only [List.cons_append, List.nil_append] at h3 ⊢
 rw [h3]
 unfold trsOf
 omega
def ChtOut (w : World) (e : Ending) (w' : World) : Prop := ∃ u : ByteArray, e = .returned (.string (bs chPre ++ u)) ∧ u.size ≤ 900 ∧ nl u ≤ 16 ∧ Below w.heap.size w w'
set_option maxHeartbeats 2000000 in
theorem chtTx_any (v : Value) (zs : List Int) (w : World) (hz : IntsAt w v zs) : Calls Tryz.prog 32 #[.agg #[v]] w (ChtOut w) := by
 have hM : Mk w v (w.heap.size + 1) 0 ((w.alloc (.cells #[v] 24)).alloc (.cells #[v, .int .i64 0] 128)) :=
  ⟨((Below.refl _ _).alloc (Nat.le_refl _) _).alloc (by simp) _, by omega, alloc_at (by simp) _⟩
 have HC := Lib.hid (chart_any w v zs hz (w.heap.size + 1) 0 (by omega))
 obtain ⟨A, n, cap, rfl⟩ := ints_slice hz
 clear hz
 go_enter Tryz.func32, Tryz.ntmps32
 go_wp2_with (go_at_call 63; refine (HC.out _ hM).mono ?_; rintro e w2 ⟨t2, k2, rfl, ht2, hn2, hk2, hM2, hb2⟩; have HN2 := Lib.hid hn2; clear hn2)
 go_ret
 exact ⟨t2, rfl, ht2, HN2.out, hb2⟩
end Go.Proofs.YtaoinedndnleoaaGreat
namespace Go.Proofs.YtaoinedndnleoaaGreat
set_option maxRecDepth 100000
theorem ini_ge {ks ps : List Int} {a : Int} {n : Nat} (h : 0 ≤ iniTo ks ps a n) : ∃ j, j < n ∧ isKid ks ps a j = true := by
 apply Classical.byContradiction
 intro hc
 have := ini_miss (ks := ks) (ps := ps) (a := a) (n := n) (fun j hj => by
  cases hk : isKid ks ps a j with
  | false => rfl
  | true => exact absurd ⟨j, hj, hk⟩ hc)
 omega
theorem val_shF {ks ps : List Int} (h : valB ks ps = true) : ShF ks ps ks.length := by
 unfold valB at h
 simp only [Bool.and_eq_true, List.all_eq_true, List.mem_range, beq_iff_eq, decide_eq_true_eq] at h
 obtain ⟨⟨⟨⟨hl1, h1⟩, h24⟩, hf⟩, hi⟩ := h
 have hsz : szN ks ps = ks.length := by unfold szN; omega
 have F : ∀ k, k < ks.length → (1 ≤ ks.getD k 0 ∧ ks.getD k 0 ≤ 4 ∧ -1 ≤ ps.getD k 0 ∧ ps.getD k 0 < k) ∧ (hl ks k = true → ps.getD k 0 < 0 ∨ hl ks (ps.getD k 0).toNat = true) ∧ (hl ks k = false → 0 ≤ ps.getD k 0 ∧ ks.getD (ps.getD k 0).toNat 0 = 1) := by
  intro k hk
  have := hf k hk
  unfold fitS at this
  rw [Bool.and_eq_true] at this
  obtain ⟨a, b⟩ := this
  simp only [Bool.not_eq_true', Bool.or_eq_false_iff, decide_eq_false_iff_not] at a
  refine ⟨by omega, fun e => ?_, fun e => ?_⟩
  ·rw [e] at b; simpa using b
  ·rw [e] at b; simpa using b
 refine ⟨rfl, hl1.symm, fun k hk => ⟨(F k hk).1.1, (F k hk).1.2.1⟩, fun k hk => ⟨(F k hk).1.2.2.1, (F k hk).1.2.2.2⟩, fun k hk hh => ?_, fun k q hk e => ?_, ⟨0, by omega, ?_⟩⟩
 ·obtain ⟨h0, hp⟩ := (F k hk).2.2 hh
  have hlt := (F k hk).1.2.2.2
  refine ⟨(ps.getD k 0).toNat, by omega, hp, ?_⟩
  have hq := hi ((ps.getD k 0).toNat + 1) (by omega)
  rw [show (((ps.getD k 0).toNat + 1 : Nat) : Int) - 1 = ((ps.getD k 0).toNat : Int) by omega] at hq
  unfold iniB at hq
  rw [hsz] at hq
  have hm : k ∈ kidsTo ps ((ps.getD k 0).toNat : Int) ks.length := mem_kidsTo.2 ⟨hk, by omega⟩
  have hpos := List.length_pos_of_mem hm
  rw [decide_eq_true hpos, Bool.true_and, Bool.not_eq_true', decide_eq_false_iff_not] at hq
  exact ini_ge (by omega)
 ·cases hh : hl ks k with
  | true =>
   rcases (F k hk).2.1 hh with h | h
   ·omega
   ·rw [e] at h; exact h
  | false =>
   obtain ⟨_, hp⟩ := (F k hk).2.2 hh
   rw [e, Int.toNat_natCast] at hp
   unfold hl; rw [hp]; rfl
 ·have h0 := F 0 (by omega)
  have hp : ps.getD 0 0 = -1 := by omega
  have hh : hl ks 0 = true := by
   cases hh : hl ks 0 with
   | true => rfl
   | false => have := h0.2.2 hh; omega
  unfold isKid
  rw [hp, hh]; rfl
end Go.Proofs.YtaoinedndnleoaaGreat
namespace Go.Proofs.YtaoinedndnleoaaGreat
set_option maxRecDepth 100000
open Go.ChangeShapes Go.WideShapes Go.ChangeAt Go.RowKit
theorem RComp_pol {s : Tx} (acc : List RL) (A : Option Addr) (cap base : Nat) (w : World) (hR : RowsAt w base (.slice A acc.length cap) acc) (he : acc.map er = (polT s).l) :
  Calls Tryz.prog 30 #[.slice A acc.length cap] w (RCompTo (compL (polT s).l) w) := by
 obtain ⟨h1, h2⟩ := pol_facts s
 rw [← he] at h1 h2
 have h3 : ∀ x ∈ acc, Small x.1 ∧ x.1.list.length ≤ 4096 := fun x hx => ⟨(h2 (er x) (List.mem_map_of_mem hx)).1, (h2 (er x) (List.mem_map_of_mem hx)).2.1⟩
 have h := RComp_any acc A cap w (rIn_of hR) (by rw [List.length_map] at h1; omega) (own_cap hR.1) (fun x hx B c W e hb => by
  have hli := own_LIn (by rw [← e]; exact hR.2 x hx : OwnL w base (.slice B x.1.list.length c) x.1.list)
  have h4 := (h3 x hx).1
  exact (RPrint_any x.1 B c x.2.1 W ((hli.below hb).at (by have := (h3 x hx).2; omega)) (short_of h4.2.2 h4.1.2 h4.2.1.2) ⟨h4.1.2, h4.2.1.2⟩).mono fun e w' h => h)
 rwa [compR_ok (fun x hx => (h2 x hx).2.2), he] at h
theorem take_code {sts : List (Ru × Nat)} : ∀ {l : List (Ru × Nat)} {c : Ch} {ln : Nat} {k : Int}, takeL sts l c = .bad ln k → k ≠ 0
 | [], c, ln, k, h => by rw [takeL] at h; split at h <;> cases h
 | x :: l, c, ln, k, h => by
  by_cases he : takeE sts c x.1 = 0
  ·rw [takeL_zero he] at h; exact take_code h
  ·rw [takeL_pos he] at h; injection h with _ h2; rw [← h2]; exact he
def saC : Ch := { names := [[115, 97]], kinds := [1], parents := [-1], trans := [] }
def saR : Ru := { kind := 8, name := [115, 97], n := 1 }
theorem sa_comp : compL [(saR, 1)] = .ok saC := by kernel_rfl
theorem sa_parse : parseL (joinP (lineP saR)) = .ok saR :=
 parse_join (l := [[115, 116, 97, 116, 101], [115, 97], [112, 108, 97, 105, 110]]) (by simp) (by decide) (by kernel_rfl) (by kernel_rfl)
theorem sa_print : printP saR ≠ none := by
 rw [printP_some.2 ⟨rfl, sa_parse⟩]; simp
theorem sa_valid : validB saC = true := by decide +kernel
structure OkC (c : Ch) : Prop where
 f : ChF c
 i : ChI c
 k : okK c.kinds
 v : validB c = true
 few : c.trans.length ≤ 17
theorem OkC.sh {c : Ch} (h : OkC c) : ShF c.kinds c.parents c.names.length := by
 have hv := h.v
 unfold validB at hv
 simp only [Bool.and_eq_true] at hv
 have := val_shF hv.1.1.1
 rwa [h.f.kl] at this
theorem OkC.n0 {c : Ch} (h : OkC c) : 0 < c.names.length := by
 obtain ⟨j, hj, _⟩ := h.sh.tp
 omega
theorem saC_ok : OkC saC := ⟨⟨rfl, rfl, by decide, by decide⟩, ⟨fun x hx => by simp [saC] at hx; subst hx; decide, fun x hx => by simp [saC] at hx; subst hx; decide⟩, fun x hx => by simp [saC] at hx; subst hx; decide, sa_valid, by decide⟩
theorem okC_of {u : Tx} (hu : u.count 10 ≤ 16) {c : Ch} (h : compL (polT (chPre ++ u)).l = .ok c) (hf : ChF c) (hi : ChI c) (hk : okK c.kinds) : OkC c := by
 refine ⟨hf, hi, hk, comp_valid h (pol_fields _), ?_⟩
 rw [(comp_ok h).tr]
 simp only [List.length_append, List.length_map, show ({} : Ch).trans.length = 0 from rfl, Nat.zero_add]
 cases hp : polT (chPre ++ u) with
 | ok l => have := few_trs hu hp; show (trsOf l).length ≤ 17; omega
 | limit => exact Nat.zero_le _
 | bad a b d => exact Nat.zero_le _
def OfTo8 (w : World) (e : Ending) (w' : World) : Prop := Below w.heap.size w w' ∧ ∃ c vN vK vP vT uN uK uP uT, e = .returned (.tuple #[.agg #[vN, vK, vP, vT], .agg #[uN, uK, uP, uT]]) ∧ ChAt w.heap.size w' c vN vK vP vT ∧ ChAtD w.heap.size w' c uN uK uP uT ∧ OkC c
theorem comp_noD {l : List (Ru × Nat)} (h : ∀ c, compL l ≠ .ok c) {w : World} {e : Ending} {w' : World} (hc : RCompTo (compL l) w e w') : Below w.heap.size w w' ∧ ∃ n col k : Int, e = .returned (.tuple #[chZ, fltD n col k]) ∧ k ≠ 0 := by
 obtain ⟨hb, hc⟩ := hc
 refine ⟨hb, ?_⟩
 cases hp : compL l with
 | ok c => exact absurd hp (h c)
 | arg => rw [hp] at hc; exact ⟨_, _, _, hc, by decide⟩
 | none => rw [hp] at hc; exact ⟨_, _, _, hc, by decide⟩
 | bad ln k => rw [hp] at hc; exact ⟨_, _, _, hc, take_code hp⟩
theorem RComp_one (w : World) (g cap : Nat) (hc : 1 ≤ cap) (h : w.heap[g]? = some (.cells #[.int .i64 8, .string (bs [115, 97]), .slice none 0 0, .int .i64 1, .int .i64 0, .string ⟨#[]⟩, .string ⟨#[]⟩, .string ⟨#[]⟩, .string ⟨#[]⟩, .string ⟨#[]⟩, .int .i64 1] 92 (0, 0))) :
  Calls Tryz.prog 30 #[.slice (some ⟨g, 0, none⟩) 1 cap] w (RCompTo (.ok saC) w) := by
 have hg := (Array.getElem?_eq_some_iff.1 h).1
 have hR : RIn w (some ⟨g, 0, none⟩) [(saR, 1, .slice none 0 0)] := fun j hj => by
  obtain rfl : j = 0 := by simp at hj; omega
  refine ⟨g, rfl, hg, fun f u hf hu => ?_, none, 0, rfl, ⟨Nat.zero_le _, fun j hj => by simp [saR] at hj⟩⟩
  rw [cell_of_row _ _ _ _ _ _ h]
  have : f = 0 ∨ f = 1 ∨ f = 2 ∨ f = 3 ∨ f = 4 ∨ f = 5 ∨ f = 6 ∨ f = 7 ∨ f = 8 ∨ f = 9 ∨ f = 10 := by omega
  rcases this with rfl | rfl | rfl | rfl | rfl | rfl | rfl | rfl | rfl | rfl | rfl <;> exact hu
 have hk := RComp_any [(saR, 1, .slice none 0 0)] (some ⟨g, 0, none⟩) cap w hR (by simp) (by simpa using hc) (fun x hx B c W e _ => by
  obtain rfl := List.mem_singleton.1 hx
  have hl : LAt W B c saR.list := ⟨Nat.zero_le _, by decide, fun j hj => by simp [saR] at hj⟩
  exact (RPrint_any saR B c 1 W hl (short_of (by decide) (by decide) (by decide)) ⟨by decide, by decide⟩).mono fun e w' h => h)
 rw [compR_ok (fun x hx => by obtain rfl := List.mem_singleton.1 hx; exact sa_print)] at hk
 rwa [show compL ([(saR, 1, Value.slice none 0 0)].map er) = .ok saC from sa_comp] at hk
abbrev papZ : Value := .agg #[.string ⟨#[]⟩, .int .u32 0, .slice none 0 0, .slice none 0 0, .slice none 0 0]
abbrev papV (nm : Tx) (x : Cf) (vP : Value) (gS n : Nat) (vD : Value) : Value := .agg #[.string (bs nm), .int .u32 (x.set : Nat), vP, .slice (some ⟨gS, 0, none⟩) n n, vD]
def PapTo (n : Nat) (nm : Tx) (r : Option (Cf × List Dn × List Nat)) (err : Int) (w : World) (e : Ending) (w' : World) : Prop := Below w.heap.size w w' ∧ match r with
 | none => e = .returned (.tuple #[papZ, .slice none 0 0, .iface 50 (.int .i64 err)])
 | some (y, ds, l) => ∃ g3 gS vD vL, e = .returned (.tuple #[papV nm y (.slice (some ⟨g3, 0, none⟩) n n) gS n vD, vL, .nilIface]) ∧ w.heap.size ≤ g3 ∧ CfR w.heap.size w' n y (.slice (some ⟨g3, 0, none⟩) n n) gS ∧ OwnDn w' w.heap.size vD ds ∧ OwnI w' w.heap.size vL (l.map fun k : Nat => (k : Int))
theorem few_en {c : Ch} (h : OkC c) (s : Nat) (kd : Int) (ev : Tx) : (enL c s kd ev).length ≤ 19 := by
 have := enK_len c s kd ev c.trans.length
 have := h.few
 unfold enL; omega
theorem OkC.ft {c : Ch} (h : OkC c) : ∀ t ∈ c.trans, ∃ f g : Nat, t.from_ = f ∧ f < c.names.length ∧ t.to_ = g ∧ g < c.names.length := fun t ht => by
 have hv := h.v
 unfold validB at hv
 simp only [Bool.and_eq_true, List.all_eq_true] at hv
 have h1 := (hv.2 t ht).1
 unfold leadsB thereB at h1
 simp only [Bool.and_eq_true, decide_eq_true_eq] at h1
 have := h.f.kl
 exact ⟨t.from_.toNat, t.to_.toNat, by omega, by omega, by omega, by omega⟩
theorem OkC.chW {W : World} {base : Nat} {c : Ch} {AN AK AP AT : Option Addr} {cN cK cP cT : Nat} (h : OkC c) (hA : ChAt base W c (.slice AN c.names.length cN) (.slice AK c.kinds.length cK) (.slice AP c.parents.length cP) (.slice AT c.trans.length cT)) : ChW W c c.names.length AK AP AT cK cP cT where
 kp := by
  have h1 := ints_of_own hA.oK h.i.1 (by have := h.f.nl; have := h.f.kl; omega)
  have h2 := ints_of_own hA.oP h.i.2 (by have := h.f.nl; have := h.f.pl; omega)
  rw [h.f.kl] at h1; rw [h.f.pl] at h2; exact ⟨h1, h2⟩
 tr := tAt_of hA.oT
 tc := own_cap hA.oT
 tl := h.f.tl
 sh := h.sh
 n0 := h.n0
 nn := h.f.nl
 ft := h.ft
theorem set5_row {W : World} {b : Nat} {a0 a1 a2 a3 a4 : Value} {t : TypeId} (v0 v1 v2 v3 v4 : Value) (h : W.heap[b]? = some (.cells #[a0, a1, a2, a3, a4] t (0, 0))) : (((((W.setCell ⟨b, 0, none⟩ v0).setCell ⟨b, 1, none⟩ v1).setCell ⟨b, 2, none⟩ v2).setCell ⟨b, 3, none⟩ v3).setCell ⟨b, 4, none⟩ v4).heap[b]? = some (.cells #[v0, v1, v2, v3, v4] t (0, 0)) := by
 have e := heap_set (j := 4) (heap_set (j := 3) (heap_set (j := 2) (heap_set (j := 1) (heap_set (j := 0) h v0) v1) v2) v3) v4
 simpa using e
theorem set5_grown (W : World) (b : Nat) (v0 v1 v2 v3 v4 : Value) : W.grownBy (((((W.setCell ⟨b, 0, none⟩ v0).setCell ⟨b, 1, none⟩ v1).setCell ⟨b, 2, none⟩ v2).setCell ⟨b, 3, none⟩ v3).setCell ⟨b, 4, none⟩ v4) (some b) :=
 World.grownBy.trans (World.grownBy.trans (World.grownBy.trans (World.grownBy.trans (grown_setCell _ _ _ _) (grown_setCell _ _ _ _)) (grown_setCell _ _ _ _)) (grown_setCell _ _ _ _)) (grown_setCell _ _ _ _)
theorem set5_below {k b : Nat} {W0 W : World} (h : Below k W0 W) (hn : k ≤ W0.heap.size) (hb : k ≤ b) (v0 v1 v2 v3 v4 : Value) : Below k W0 (((((W.setCell ⟨b, 0, none⟩ v0).setCell ⟨b, 1, none⟩ v1).setCell ⟨b, 2, none⟩ v2).setCell ⟨b, 3, none⟩ v3).setCell ⟨b, 4, none⟩ v4) :=
 h.grown (set5_grown _ _ _ _ _ _ _) (Nat.le_trans hn h.size) (fun k e => by cases e; exact hb)
section
variable (c : Ch) (n : Nat) (AN AK AP AT : Option Addr) (cN cK cP cT : Nat) (nm : Tx) (now : Int) (w : World)
set_option maxHeartbeats 8000000 in
theorem New_ok (hl : nm.length ≤ 1000) (hn : nameL nm = true) (h0 : 0 ≤ now) (h1 : now ≤ 1073741824) (h : ChW w c n AK AP AT cK cP cT) (hN : ListAt w AN cN c.names) (hok : OkC c) :
  Calls Tryz.prog 15 #[chV AN AK AP AT c.names.length cN n cK n cP c.trans.length cT, .string (bs nm), .int .i64 now] w (PapTo n nm ((runC c n now 16 (begC c n now) []).map fun r => (r.1, [], r.2)) 10 w) := by
 have NA := Lib.hid (fun W => Name_any (bs nm) W (by simp [bs, ByteArray.size, maxLen]; omega))
 rw [list_bs, hn] at NA
 have hw : (Lit.int .i64 now).wf = true := WalkArith.wf_i64 (by omega)
 have BG := Lib.hid (fun W (hW : Below w.heap.size w W) => begin_any c n AN AK AP AT cN cK cP cT now (Plc c.kinds c.parents n) W (h.below hW) (hN.below hW) hok.v hok.f.nl hw (runInv_plc h.sh h.nn hw h.ft (fun s => few_en hok s 10 [])) (Plc.beg h.sh h.nn hw))
 have hB0 : Below w.heap.size w ((w.alloc (.cells #[.slice AN c.names.length cN, .slice AK n cK, .slice AP n cP, .slice AT c.trans.length cT] 30)).alloc (.cells #[.string ⟨#[]⟩, .int .u32 0, .slice none 0 0, .slice none 0 0, .slice none 0 0] 59)) := ((Below.refl _ _).alloc (Nat.le_refl _) _).alloc (by simp) _
 have RC : ((w.alloc (.cells #[.slice AN c.names.length cN, .slice AK n cK, .slice AP n cP, .slice AT c.trans.length cT] 30)).alloc (.cells #[.string ⟨#[]⟩, .int .u32 0, .slice none 0 0, .slice none 0 0, .slice none 0 0] 59)).heap[w.heap.size]? = some (.cells #[.slice AN c.names.length cN, .slice AK n cK, .slice AP n cP, .slice AT c.trans.length cT] 30 (0, 0)) := (heap_alloc_old _ _ (by simp)).trans (heap_alloc_new _ _)
 have RR : ((w.alloc (.cells #[.slice AN c.names.length cN, .slice AK n cK, .slice AP n cP, .slice AT c.trans.length cT] 30)).alloc (.cells #[.string ⟨#[]⟩, .int .u32 0, .slice none 0 0, .slice none 0 0, .slice none 0 0] 59)).heap[w.heap.size + 1]? = some (.cells #[.string ⟨#[]⟩, .int .u32 0, .slice none 0 0, .slice none 0 0, .slice none 0 0] 59 (0, 0)) := by
  have := heap_alloc_new (w.alloc (.cells #[.slice AN c.names.length cN, .slice AK n cK, .slice AP n cP, .slice AT c.trans.length cT] 30)) (.cells #[.string ⟨#[]⟩, .int .u32 0, .slice none 0 0, .slice none 0 0, .slice none 0 0] 59)
  simpa using this
 have hd0 : ¬ now < 0 := by omega
 have hd1 : ¬ 1073741824 < now := by omega
 have HB0 := Lib.hid hB0
 clear hB0 h hN hok hw hn h0 h1
 generalize runC c n now 16 (begC c n now) [] = r at *
 go_enter Tryz.func15, Tryz.ntmps15
 go_upto_region 1 with fail
 generalize (w.alloc (.cells #[.slice AN c.names.length cN, .slice AK n cK, .slice AP n cP, .slice AT c.trans.length cT] 30)).alloc (.cells #[.string ⟨#[]⟩, .int .u32 0, .slice none 0 0, .slice none 0 0, .slice none 0 0] 59) = w0 at *
 have c0 := cell_of_row _ _ 0 _ _ _ RC; have c1 := cell_of_row _ _ 1 _ _ _ RC; have c2 := cell_of_row _ _ 2 _ _ _ RC; have c3 := cell_of_row _ _ 3 _ _ _ RC
 have hlr := (Array.getElem?_eq_some_iff.1 RR).1
 have HRR := Lib.hid RR
 clear RR RC
 cases r with
 | none =>
  go_upto_region 4 with (first
   | (go_at_call 42; refine (NA.out _).mono ?_; rintro e w5 ⟨rfl, rfl⟩)
   | (go_at_call 41; refine (BG.out _ HB0.out).mono ?_; rintro e w5 ⟨hb5, he⟩; simp only at he; subst he; have HB5 := Lib.hid hb5; clear hb5))
  have HZ := Lib.hid (box_b w5 (.cells #[.int .u32 0, .slice none 0 0, .slice none 0 0] 40))
  have RX := ((below_then HB5.out HZ.out HB5.out.size).block _ hlr).trans HRR.out
  generalize w5.alloc (.cells #[.int .u32 0, .slice none 0 0, .slice none 0 0] 40) = w6 at *
  have z0 := fz_of RX 0; have z1 := fz_of RX 1; have z2 := fz_of RX 2; have z3 := fz_of RX 3; have z4 := fz_of RX 4
  have e0 := cell_of_row _ _ 0 _ _ _ RX; have e1 := cell_of_row _ _ 1 _ _ _ RX; have e2 := cell_of_row _ _ 2 _ _ _ RX; have e3 := cell_of_row _ _ 3 _ _ _ RX; have e4 := cell_of_row _ _ 4 _ _ _ RX
  go_wp2_with fail
  (try simp only [Exit.inBlock, Exit.then])
  refine bodyPost_ret (run_cellU2 rfl _ _ (w.heap.size + 1) _ _ _ _ rfl (set5_row _ _ _ _ _ RX) Tryz.underlying59 rfl (by kernel_rfl)) rfl ?_
  exact ⟨set5_below (below_then (below_then HB0.out HB5.out HB0.out.size) HZ.out (below_then HB0.out HB5.out HB0.out.size).size) (Nat.le_refl _) (by omega) _ _ _ _ _, rfl⟩
 | some yo =>
  obtain ⟨y, out⟩ := yo
  go_upto_region 4 with (first
   | (go_at_call 42; refine (NA.out _).mono ?_; rintro e w5 ⟨rfl, rfl⟩)
   | (go_at_call 41; refine (BG.out _ HB0.out).mono ?_; rintro e w5 ⟨hb5, g3, gS, v, rfl, hg3, hR, hO⟩; obtain ⟨AO, cO, rfl⟩ := own_slice hO; have HB5 := Lib.hid hb5; have HRy := Lib.hid hR; have HO := Lib.hid hO; clear hb5 hR hO))
  have HZ := Lib.hid (box_b w5 (.cells #[.int .u32 (y.set : Nat), .slice (some ⟨g3, 0, none⟩) n n, .slice (some ⟨gS, 0, none⟩) n n] 40))
  have RY := heap_alloc_new w5 (.cells #[.int .u32 (y.set : Nat), .slice (some ⟨g3, 0, none⟩) n n, .slice (some ⟨gS, 0, none⟩) n n] 40)
  have RX := ((below_then HB5.out HZ.out HB5.out.size).block _ hlr).trans HRR.out
  have hs5 : w0.heap.size ≤ w5.heap.size := HB5.out.size
  have hr5 := (Array.getElem?_eq_some_iff.1 HRy.out.rS).1
  have HZB : Hid (Below w5.heap.size w5 (w5.alloc (.cells #[.int .u32 (y.set : Nat), .slice (some ⟨g3, 0, none⟩) n n, .slice (some ⟨gS, 0, none⟩) n n] 40))) := HZ.out
  have HS5 := Lib.hid hs5
  generalize hgc : w5.heap.size = gc at RY
  generalize w5.alloc (.cells #[.int .u32 (y.set : Nat), .slice (some ⟨g3, 0, none⟩) n n, .slice (some ⟨gS, 0, none⟩) n n] 40) = w6 at *
  have z0 := fz_of RX 0; have z1 := fz_of RX 1; have z2 := fz_of RX 2; have z3 := fz_of RX 3; have z4 := fz_of RX 4
  have e0 := cell_of_row _ _ 0 _ _ _ RX; have e1 := cell_of_row _ _ 1 _ _ _ RX; have e2 := cell_of_row _ _ 2 _ _ _ RX; have e3 := cell_of_row _ _ 3 _ _ _ RX; have e4 := cell_of_row _ _ 4 _ _ _ RX
  have y0 := cell_of_row _ _ 0 _ _ _ RY; have y1 := cell_of_row _ _ 1 _ _ _ RY; have y2 := cell_of_row _ _ 2 _ _ _ RY
  go_wp2_with fail
  (try simp only [Exit.inBlock, Exit.then])
  refine bodyPost_ret (run_cellU2 rfl _ _ (w.heap.size + 1) _ _ _ _ rfl (set5_row _ _ _ _ _ RX) Tryz.underlying59 rfl (by kernel_rfl)) rfl ?_
  have hg3' : w0.heap.size ≤ g3 := hg3
  have hgS : w0.heap.size ≤ gS := HRy.out.lo
  have hwl : w.heap.size + 1 < w0.heap.size := hlr
  have hbw : Below w.heap.size w w6 := below_then (below_then HB0.out HB5.out HB0.out.size) HZB.out (below_then HB0.out HB5.out HB0.out.size).size
  have hC := cfr_grown (HRy.out.below HZB.out) (set5_grown w6 (w.heap.size + 1) (.string (bs nm)) (.int .u32 (y.set : Nat)) (.slice (some ⟨g3, 0, none⟩) n n) (.slice (some ⟨gS, 0, none⟩) n n) (.slice none 0 0)) (by intro e; injection e with e; omega) (by intro e; injection e with e; omega)
  have hO6 := World.ownsRow.kept (own_below HO.out HZB.out hs5) (set5_grown w6 (w.heap.size + 1) (.string (bs nm)) (.int .u32 (y.set : Nat)) (.slice (some ⟨g3, 0, none⟩) n n) (.slice (some ⟨gS, 0, none⟩) n n) (.slice none 0 0)) (.inr fun e => by have := (World.ownsRow.lt HO.out _ e).1; omega)
  exact ⟨set5_below hbw (Nat.le_refl _) (by omega) _ _ _ _ _, g3, gS, _, _, rfl, by omega, hC.base (by omega), World.ownsRow_nil _ _ _ _, own_mono2 (by simpa using hO6) (by omega)⟩
end
end Go.Proofs.YtaoinedndnleoaaGreat

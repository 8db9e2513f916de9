import Derived.Test.YtkalfhhdljndfaaGreatDoorGl0
namespace Go.Proofs.YtkalfhhdljndfaaGreatDoor
set_option maxRecDepth 100000
open Go.ChangeShapes Go.WideShapes Go.ChangeAt Go.RowKit
structure GeR where
 fro : Tx
 rcv : Tx
 role : Tx
 way : Int
 now : Int
 time : Int
 er : Int
def geT (n : Int) : List GeR := [
 ⟨[117, 120], [117, 98], [114, 98], 0, n, 1, 3⟩,
 ⟨[117, 97], [117, 120], [114, 98], 0, n, 1, 3⟩,
 ⟨[117, 97], [117, 98], [114, 120], 0, n, 1, 3⟩,
 ⟨[117, 97], [117, 97], [114, 98], 0, n, 1, 1⟩,
 ⟨[117, 97], [117, 98], [114, 98], 0, n, 0, 1⟩,
 ⟨[117, 97], [117, 98], [114, 98], 0, n, 11, 1⟩,
 ⟨[117, 97], [117, 98], [114, 98], 0, (-1), 1, 1⟩,
 ⟨[117, 97], [117, 98], [114, 98], 0, 1073741825, 1, 1⟩,
 ⟨[117, 100], [117, 98], [114, 99], 0, n, 1, 8⟩,
 ⟨[117, 98], [117, 97], [114, 98], 0, n, 1, 8⟩,
 ⟨[117, 97], [117, 98], [114, 98], 7, n, 1, 8⟩,
 ⟨[117, 97], [117, 98], [114, 98], 0, 1073741824, 1, 11⟩,
 ⟨[117, 97], [117, 100], [114, 98], 0, n, 1, 7⟩,
 ⟨[117, 97], [117, 100], [114, 97], 0, n, 1, 7⟩,
 ⟨[117, 97], [117, 98], [114, 97], 0, n, 20, 0⟩,
 ⟨[117, 97], [117, 98], [114, 97], 0, n, 5, 4⟩,
 ⟨[117, 98], [117, 99], [114, 97], 1, n, 5, 8⟩,
 ⟨[117, 98], [117, 99], [114, 98], 1, n, 5, 0⟩,
 ⟨[117, 98], [117, 99], [114, 98], 1, n, 5, 4⟩]
def geG1 (n : Int) : Gr := ⟨1, [117, 97], [117, 98], [114, 97], n + 20, 1, 0⟩
def geG2 (n : Int) : Gr := ⟨2, [117, 98], [117, 99], [114, 98], n + 5, 2, 1⟩
def geS (n : Int) (m : Nat) : List Gr := if m < 15 then [] else if m < 18 then [geG1 n] else [geG1 n, geG2 n]
def geL (m : Nat) : Int := if m < 15 then 0 else if m < 18 then 1 else 2
def geX (n : Int) (m : Nat) (x : GeR) : Gr := giveX (geS n m) (geL m) x.fro x.rcv x.role x.way
structure GeStep (n : Int) (m : Nat) (x : GeR) : Prop where
 er : giveE gN gB (gR 2) (geS n m) (geX n m x) x.now x.time = x.er
 ok : x.er = 0 → geS n (m + 1) = geS n m ++ [giveG (geS n m) (geX n m x) x.now x.time] ∧ geL (m + 1) = (giveG (geS n m) (geX n m x) x.now x.time).num ∧ (giveG (geS n m) (geX n m x) x.now x.time).num ≠ 0
 no : x.er ≠ 0 → geS n (m + 1) = geS n m ∧ geL (m + 1) = geL m
 role : x.role.length ≤ 1048576
 loan : (lnV (gR 2).loans x.role).2 ≤ 1073741824
 lo : 0 ≤ x.er
 hi : x.er ≤ 14
theorem arg_no {r : Rt} {x : Gr} {now time : Int} (hs : decide (x.fro = x.rcv) = false) (h1 : ¬ time < 1) (hl : ((lnP r.loans x.role).isSome && decide ((lnV r.loans x.role).2 < time)) = false) (h0 : 0 ≤ now) (h2 : now ≤ 1073741824) : argP r x now time = false := by
 unfold argP
 rw [hs, hl, decide_eq_false h1, decide_eq_false (by omega : ¬ now < 0), decide_eq_false (by omega : ¬ 1073741824 < now)]
 rfl
theorem ge_step {n : Int} (h0 : 0 ≤ n) (h1 : n ≤ 1073741803) {m : Nat} (hm : m < 19) : ∃ h : m < (geT n).length, GeStep n m (geT n)[m] := by
 refine ⟨by simpa [geT] using hm, ?_⟩
 obtain rfl | rfl | rfl | rfl | rfl | rfl | rfl | rfl | rfl | rfl | rfl | rfl | rfl | rfl | rfl | rfl | rfl | rfl | rfl : m = 0 ∨ m = 1 ∨ m = 2 ∨ m = 3 ∨ m = 4 ∨ m = 5 ∨ m = 6 ∨ m = 7 ∨ m = 8 ∨ m = 9 ∨ m = 10 ∨ m = 11 ∨ m = 12 ∨ m = 13 ∨ m = 14 ∨ m = 15 ∨ m = 16 ∨ m = 17 ∨ m = 18 := by omega
 ·exact ⟨wr3 (by kernel_rfl), fun h => absurd (show (3 : Int) = 0 from h) (by decide), fun _ => ⟨rfl, rfl⟩, (show (2 : Nat) ≤ 1048576 by decide), (show (lnV (gR 2).loans [114, 98]).2 ≤ 1073741824 by decide +kernel), (show (0 : Int) ≤ 3 by decide), (show (3 : Int) ≤ 14 by decide)⟩
 ·exact ⟨wr3 (by kernel_rfl), fun h => absurd (show (3 : Int) = 0 from h) (by decide), fun _ => ⟨rfl, rfl⟩, (show (2 : Nat) ≤ 1048576 by decide), (show (lnV (gR 2).loans [114, 98]).2 ≤ 1073741824 by decide +kernel), (show (0 : Int) ≤ 3 by decide), (show (3 : Int) ≤ 14 by decide)⟩
 ·exact ⟨wr3 (by kernel_rfl), fun h => absurd (show (3 : Int) = 0 from h) (by decide), fun _ => ⟨rfl, rfl⟩, (show (2 : Nat) ≤ 1048576 by decide), (show (lnV (gR 2).loans [114, 120]).2 ≤ 1073741824 by decide +kernel), (show (0 : Int) ≤ 3 by decide), (show (3 : Int) ≤ 14 by decide)⟩
 ·exact ⟨wr1 (by kernel_rfl) (by kernel_rfl), fun h => absurd (show (1 : Int) = 0 from h) (by decide), fun _ => ⟨rfl, rfl⟩, (show (2 : Nat) ≤ 1048576 by decide), (show (lnV (gR 2).loans [114, 98]).2 ≤ 1073741824 by decide +kernel), (show (0 : Int) ≤ 1 by decide), (show (1 : Int) ≤ 14 by decide)⟩
 ·exact ⟨wr1 (by kernel_rfl) (by kernel_rfl), fun h => absurd (show (1 : Int) = 0 from h) (by decide), fun _ => ⟨rfl, rfl⟩, (show (2 : Nat) ≤ 1048576 by decide), (show (lnV (gR 2).loans [114, 98]).2 ≤ 1073741824 by decide +kernel), (show (0 : Int) ≤ 1 by decide), (show (1 : Int) ≤ 14 by decide)⟩
 ·exact ⟨wr1 (by kernel_rfl) (by kernel_rfl), fun h => absurd (show (1 : Int) = 0 from h) (by decide), fun _ => ⟨rfl, rfl⟩, (show (2 : Nat) ≤ 1048576 by decide), (show (lnV (gR 2).loans [114, 98]).2 ≤ 1073741824 by decide +kernel), (show (0 : Int) ≤ 1 by decide), (show (1 : Int) ≤ 14 by decide)⟩
 ·exact ⟨wr1 (by kernel_rfl) (by kernel_rfl), fun h => absurd (show (1 : Int) = 0 from h) (by decide), fun _ => ⟨rfl, rfl⟩, (show (2 : Nat) ≤ 1048576 by decide), (show (lnV (gR 2).loans [114, 98]).2 ≤ 1073741824 by decide +kernel), (show (0 : Int) ≤ 1 by decide), (show (1 : Int) ≤ 14 by decide)⟩
 ·exact ⟨wr1 (by kernel_rfl) (by kernel_rfl), fun h => absurd (show (1 : Int) = 0 from h) (by decide), fun _ => ⟨rfl, rfl⟩, (show (2 : Nat) ≤ 1048576 by decide), (show (lnV (gR 2).loans [114, 98]).2 ≤ 1073741824 by decide +kernel), (show (0 : Int) ≤ 1 by decide), (show (1 : Int) ≤ 14 by decide)⟩
 ·exact ⟨wr8 (by kernel_rfl) (arg_no (by kernel_rfl) (show ¬ (1 : Int) < 1 by decide) (by kernel_rfl) h0 (show n ≤ 1073741824 by omega)) (by kernel_rfl), fun h => absurd (show (8 : Int) = 0 from h) (by decide), fun _ => ⟨rfl, rfl⟩, (show (2 : Nat) ≤ 1048576 by decide), (show (lnV (gR 2).loans [114, 99]).2 ≤ 1073741824 by decide +kernel), (show (0 : Int) ≤ 8 by decide), (show (8 : Int) ≤ 14 by decide)⟩
 ·exact ⟨wr8 (by kernel_rfl) (arg_no (by kernel_rfl) (show ¬ (1 : Int) < 1 by decide) (by kernel_rfl) h0 (show n ≤ 1073741824 by omega)) (by kernel_rfl), fun h => absurd (show (8 : Int) = 0 from h) (by decide), fun _ => ⟨rfl, rfl⟩, (show (2 : Nat) ≤ 1048576 by decide), (show (lnV (gR 2).loans [114, 98]).2 ≤ 1073741824 by decide +kernel), (show (0 : Int) ≤ 8 by decide), (show (8 : Int) ≤ 14 by decide)⟩
 ·exact ⟨wr8 (by kernel_rfl) (arg_no (by kernel_rfl) (show ¬ (1 : Int) < 1 by decide) (by kernel_rfl) h0 (show n ≤ 1073741824 by omega)) (by kernel_rfl), fun h => absurd (show (8 : Int) = 0 from h) (by decide), fun _ => ⟨rfl, rfl⟩, (show (2 : Nat) ≤ 1048576 by decide), (show (lnV (gR 2).loans [114, 98]).2 ≤ 1073741824 by decide +kernel), (show (0 : Int) ≤ 8 by decide), (show (8 : Int) ≤ 14 by decide)⟩
 ·exact ⟨wr11 (by kernel_rfl) (arg_no (by kernel_rfl) (show ¬ (1 : Int) < 1 by decide) (by kernel_rfl) (show (0 : Int) ≤ 1073741824 by decide) (show (1073741824 : Int) ≤ 1073741824 by decide)) (by kernel_rfl) (show (1073741824 : Int) < 1073741824 + 1 by decide), fun h => absurd (show (11 : Int) = 0 from h) (by decide), fun _ => ⟨rfl, rfl⟩, (show (2 : Nat) ≤ 1048576 by decide), (show (lnV (gR 2).loans [114, 98]).2 ≤ 1073741824 by decide +kernel), (show (0 : Int) ≤ 11 by decide), (show (11 : Int) ≤ 14 by decide)⟩
 ·exact ⟨wr7 (by kernel_rfl) (arg_no (by kernel_rfl) (show ¬ (1 : Int) < 1 by decide) (by kernel_rfl) h0 (show n ≤ 1073741824 by omega)) (by kernel_rfl) (by show ¬ 1073741824 < n + 1; omega) (by kernel_rfl) (show ¬ 20 ≤ 0 by decide) (by kernel_rfl), fun h => absurd (show (7 : Int) = 0 from h) (by decide), fun _ => ⟨rfl, rfl⟩, (show (2 : Nat) ≤ 1048576 by decide), (show (lnV (gR 2).loans [114, 98]).2 ≤ 1073741824 by decide +kernel), (show (0 : Int) ≤ 7 by decide), (show (7 : Int) ≤ 14 by decide)⟩
 ·exact ⟨wr7 (by kernel_rfl) (arg_no (by kernel_rfl) (show ¬ (1 : Int) < 1 by decide) (by kernel_rfl) h0 (show n ≤ 1073741824 by omega)) (by kernel_rfl) (by show ¬ 1073741824 < n + 1; omega) (by kernel_rfl) (show ¬ 20 ≤ 0 by decide) (by kernel_rfl), fun h => absurd (show (7 : Int) = 0 from h) (by decide), fun _ => ⟨rfl, rfl⟩, (show (2 : Nat) ≤ 1048576 by decide), (show (lnV (gR 2).loans [114, 97]).2 ≤ 1073741824 by decide +kernel), (show (0 : Int) ≤ 7 by decide), (show (7 : Int) ≤ 14 by decide)⟩
 ·exact ⟨wr0 (by kernel_rfl) (arg_no (by kernel_rfl) (show ¬ (20 : Int) < 1 by decide) (by kernel_rfl) h0 (show n ≤ 1073741824 by omega)) (by kernel_rfl) (by show ¬ 1073741824 < n + 20; omega) (by kernel_rfl) (show ¬ 20 ≤ 0 by decide) (by kernel_rfl), fun _ => ⟨rfl, rfl, (show (1 : Int) ≠ 0 by decide)⟩, fun h => absurd rfl h, (show (2 : Nat) ≤ 1048576 by decide), (show (lnV (gR 2).loans [114, 97]).2 ≤ 1073741824 by decide +kernel), (show (0 : Int) ≤ 0 by decide), (show (0 : Int) ≤ 14 by decide)⟩
 ·exact ⟨wr4 (by kernel_rfl) (arg_no (by kernel_rfl) (show ¬ (5 : Int) < 1 by decide) (by kernel_rfl) h0 (show n ≤ 1073741824 by omega)) (by kernel_rfl) (by show ¬ 1073741824 < n + 5; omega) (by kernel_rfl), fun h => absurd (show (4 : Int) = 0 from h) (by decide), fun _ => ⟨rfl, rfl⟩, (show (2 : Nat) ≤ 1048576 by decide), (show (lnV (gR 2).loans [114, 97]).2 ≤ 1073741824 by decide +kernel), (show (0 : Int) ≤ 4 by decide), (show (4 : Int) ≤ 14 by decide)⟩
 ·exact ⟨wr8 (by kernel_rfl) (arg_no (by kernel_rfl) (show ¬ (5 : Int) < 1 by decide) (by kernel_rfl) h0 (show n ≤ 1073741824 by omega)) (by kernel_rfl), fun h => absurd (show (8 : Int) = 0 from h) (by decide), fun _ => ⟨rfl, rfl⟩, (show (2 : Nat) ≤ 1048576 by decide), (show (lnV (gR 2).loans [114, 97]).2 ≤ 1073741824 by decide +kernel), (show (0 : Int) ≤ 8 by decide), (show (8 : Int) ≤ 14 by decide)⟩
 ·exact ⟨wr0 (by kernel_rfl) (arg_no (by kernel_rfl) (show ¬ (5 : Int) < 1 by decide) (by kernel_rfl) h0 (show n ≤ 1073741824 by omega)) (by kernel_rfl) (by show ¬ 1073741824 < n + 5; omega) (by kernel_rfl) (show ¬ 20 ≤ 1 by decide) (by kernel_rfl), fun _ => ⟨(by show [geG1 n, geG2 n] = [geG1 n] ++ [⟨2, [117, 98], [117, 99], [114, 98], min (n + 5) (n + 20), 2, 1⟩]; rw [show min (n + 5) (n + 20) = n + 5 by omega]; rfl), rfl, (show (2 : Int) ≠ 0 by decide)⟩, fun h => absurd rfl h, (show (2 : Nat) ≤ 1048576 by decide), (show (lnV (gR 2).loans [114, 98]).2 ≤ 1073741824 by decide +kernel), (show (0 : Int) ≤ 0 by decide), (show (0 : Int) ≤ 14 by decide)⟩
 ·exact ⟨wr4 (by kernel_rfl) (arg_no (by kernel_rfl) (show ¬ (5 : Int) < 1 by decide) (by kernel_rfl) h0 (show n ≤ 1073741824 by omega)) (by kernel_rfl) (by show ¬ 1073741824 < n + 5; omega) (by kernel_rfl), fun h => absurd (show (4 : Int) = 0 from h) (by decide), fun _ => ⟨rfl, rfl⟩, (show (2 : Nat) ≤ 1048576 by decide), (show (lnV (gR 2).loans [114, 98]).2 ≤ 1073741824 by decide +kernel), (show (0 : Int) ≤ 4 by decide), (show (4 : Int) ≤ 14 by decide)⟩
theorem geI (n : Int) (h0 : 0 ≤ n) (h1 : n ≤ 1073741803) (m : Nat) : GrI (geS n m) (geL m) := by
 unfold geS geL
 have e1 : 1 ≤ (geG1 n).num ∧ (geG1 n).num = 1 ∧ 1 ≤ (geG1 n).dep ∧ (geG1 n).dep ≤ 1073741824 ∧ 0 ≤ (geG1 n).til ∧ (geG1 n).til ≤ 1073741824 := ⟨(show (1 : Int) ≤ 1 by decide), rfl, (show (1 : Int) ≤ 1 by decide), (show (1 : Int) ≤ 1073741824 by decide), (show 0 ≤ n + 20 by omega), (show n + 20 ≤ 1073741824 by omega)⟩
 have e2 : 1 ≤ (geG2 n).num ∧ (geG2 n).num = 2 ∧ 1 ≤ (geG2 n).dep ∧ (geG2 n).dep ≤ 1073741824 ∧ 0 ≤ (geG2 n).til ∧ (geG2 n).til ≤ 1073741824 := ⟨(show (1 : Int) ≤ 2 by decide), rfl, (show (1 : Int) ≤ 2 by decide), (show (2 : Int) ≤ 1073741824 by decide), (show 0 ≤ n + 5 by omega), (show n + 5 ≤ 1073741824 by omega)⟩
 split
 ·exact ⟨(by simp), (by decide), (by decide), (fun g hg => by cases hg), (fun g hg => by cases hg), (fun g hg => by cases hg)⟩
 ·split
  ·refine ⟨by simp, by decide, by decide, fun g hg => ?_, fun g hg => ?_, fun g hg => ?_⟩
   all_goals
    rw [List.mem_singleton] at hg
    subst hg
    omega
  ·refine ⟨by simp, by decide, by decide, fun g hg => ?_, fun g hg => ?_, fun g hg => ?_⟩
   all_goals
    rcases List.mem_cons.1 hg with rfl | hg
    ·omega
    ·rw [List.mem_singleton] at hg
     subst hg
     omega
theorem ge_exp0 (n : Int) : remP (fun g => decide (g.til ≤ n)) (geS n 19) = (geS n 19, []) := by
 have a : decide ((geG1 n).til ≤ n) = false := decide_eq_false (by show ¬ n + 20 ≤ n; omega)
 have b : decide ((geG2 n).til ≤ n) = false := decide_eq_false (by show ¬ n + 5 ≤ n; omega)
 rw [show geS n 19 = [geG1 n, geG2 n] from rfl]
 unfold remP
 rw [List.foldl_cons, List.foldl_cons, List.foldl_nil]
 unfold remStep
 simp only [a, b]
 rfl
theorem ge_exp5 (n : Int) : remP (fun g => decide (g.til ≤ n + 5)) (geS n 19) = ([geG1 n], [2]) := by
 have a : decide ((geG1 n).til ≤ n + 5) = false := decide_eq_false (by show ¬ n + 20 ≤ n + 5; omega)
 have b : decide ((geG2 n).til ≤ n + 5) = true := decide_eq_true (by show n + 5 ≤ n + 5; omega)
 rw [show geS n 19 = [geG1 n, geG2 n] from rfl]
 unfold remP
 rw [List.foldl_cons, List.foldl_cons, List.foldl_nil]
 unfold remStep
 simp only [a, b]
 rfl
theorem ge_exp20 (n : Int) : remP (fun g => decide (g.til ≤ n + 20)) [geG1 n] = ([], [1]) := by
 have a : decide ((geG1 n).til ≤ n + 20) = true := decide_eq_true (by show n + 20 ≤ n + 20; omega)
 unfold remP
 rw [List.foldl_cons, List.foldl_nil]
 unfold remStep
 simp only [a]
 rfl
theorem ge_find9 (n : Int) : gFind (geS n 19) 9 = none := rfl
theorem ge_find1 (n : Int) : gFind (geS n 19) 1 = some (geG1 n) := rfl
theorem ge_from (n : Int) : (geG1 n).fro ≠ [117, 98] := by show ¬ ([117, 97] : Tx) = [117, 98]; decide
def geC (x : GeR) : List Value := [.string (bs x.fro), .string (bs x.rcv), .string (bs x.role), .int .i64 x.way, .int .i64 x.now, .int .i64 x.time, .int .i64 x.er]
def geV (n : Int) : List Value := [
 .string ⟨#[117, 120]⟩, .string ⟨#[117, 98]⟩, .string ⟨#[114, 98]⟩, .int .i64 0, .int .i64 n, .int .i64 1, .int .i64 3,
 .string ⟨#[117, 97]⟩, .string ⟨#[117, 120]⟩, .string ⟨#[114, 98]⟩, .int .i64 0, .int .i64 n, .int .i64 1, .int .i64 3,
 .string ⟨#[117, 97]⟩, .string ⟨#[117, 98]⟩, .string ⟨#[114, 120]⟩, .int .i64 0, .int .i64 n, .int .i64 1, .int .i64 3,
 .string ⟨#[117, 97]⟩, .string ⟨#[117, 97]⟩, .string ⟨#[114, 98]⟩, .int .i64 0, .int .i64 n, .int .i64 1, .int .i64 1,
 .string ⟨#[117, 97]⟩, .string ⟨#[117, 98]⟩, .string ⟨#[114, 98]⟩, .int .i64 0, .int .i64 n, .int .i64 0, .int .i64 1,
 .string ⟨#[117, 97]⟩, .string ⟨#[117, 98]⟩, .string ⟨#[114, 98]⟩, .int .i64 0, .int .i64 n, .int .i64 11, .int .i64 1,
 .string ⟨#[117, 97]⟩, .string ⟨#[117, 98]⟩, .string ⟨#[114, 98]⟩, .int .i64 0, .int .i64 (-1), .int .i64 1, .int .i64 1,
 .string ⟨#[117, 97]⟩, .string ⟨#[117, 98]⟩, .string ⟨#[114, 98]⟩, .int .i64 0, .int .i64 1073741825, .int .i64 1, .int .i64 1,
 .string ⟨#[117, 100]⟩, .string ⟨#[117, 98]⟩, .string ⟨#[114, 99]⟩, .int .i64 0, .int .i64 n, .int .i64 1, .int .i64 8,
 .string ⟨#[117, 98]⟩, .string ⟨#[117, 97]⟩, .string ⟨#[114, 98]⟩, .int .i64 0, .int .i64 n, .int .i64 1, .int .i64 8,
 .string ⟨#[117, 97]⟩, .string ⟨#[117, 98]⟩, .string ⟨#[114, 98]⟩, .int .i64 7, .int .i64 n, .int .i64 1, .int .i64 8,
 .string ⟨#[117, 97]⟩, .string ⟨#[117, 98]⟩, .string ⟨#[114, 98]⟩, .int .i64 0, .int .i64 1073741824, .int .i64 1, .int .i64 11,
 .string ⟨#[117, 97]⟩, .string ⟨#[117, 100]⟩, .string ⟨#[114, 98]⟩, .int .i64 0, .int .i64 n, .int .i64 1, .int .i64 7,
 .string ⟨#[117, 97]⟩, .string ⟨#[117, 100]⟩, .string ⟨#[114, 97]⟩, .int .i64 0, .int .i64 n, .int .i64 1, .int .i64 7,
 .string ⟨#[117, 97]⟩, .string ⟨#[117, 98]⟩, .string ⟨#[114, 97]⟩, .int .i64 0, .int .i64 n, .int .i64 20, .int .i64 0,
 .string ⟨#[117, 97]⟩, .string ⟨#[117, 98]⟩, .string ⟨#[114, 97]⟩, .int .i64 0, .int .i64 n, .int .i64 5, .int .i64 4,
 .string ⟨#[117, 98]⟩, .string ⟨#[117, 99]⟩, .string ⟨#[114, 97]⟩, .int .i64 1, .int .i64 n, .int .i64 5, .int .i64 8,
 .string ⟨#[117, 98]⟩, .string ⟨#[117, 99]⟩, .string ⟨#[114, 98]⟩, .int .i64 1, .int .i64 n, .int .i64 5, .int .i64 0,
 .string ⟨#[117, 98]⟩, .string ⟨#[117, 99]⟩, .string ⟨#[114, 98]⟩, .int .i64 1, .int .i64 n, .int .i64 5, .int .i64 4]
theorem geV_eq (n : Int) : geV n = (geT n).flatMap geC := rfl
def TabE (w : World) (b : Nat) (n : Int) : Prop := b < w.heap.size ∧ ∀ j (hj : j < (geT n).length), ∀ f u, f < 7 → (geC (geT n)[j])[f]? = some u → w.cell? ⟨b, j * 7 + f, none⟩ = some u
theorem geC_at : ∀ (l : List GeR) (j f : Nat) (h : j < l.length), f < 7 → (l.flatMap geC)[j * 7 + f]? = (geC l[j])[f]?
 | x :: r, 0, f, _, hf => by
  show (geC x ++ r.flatMap geC)[_]? = _
  rw [List.getElem?_append_left (by show _ < 7; omega)]; simp
 | x :: r, j + 1, f, h, hf => by
  show (geC x ++ r.flatMap geC)[_]? = _
  rw [List.getElem?_append_right (by show 7 ≤ _; omega), show (geC x).length = 7 from rfl, show (j + 1) * 7 + f - 7 = j * 7 + f by omega]
  exact geC_at r j f (by simpa using h) hf
theorem ge_tab (w : World) (n : Int) (e : TypeId) : TabE (w.alloc (.cells (geV n).toArray e)) w.heap.size n :=
 ⟨by simp, fun j hj f u hf hu => by
  rw [cell_of_row _ _ _ _ _ _ (heap_alloc_new w _), geV_eq]
  rw [← geC_at (geT n) j f hj hf] at hu
  simpa using hu⟩
theorem TabE.chg {w w' : World} {b : Nat} {n : Int} {S : Nat → Prop} (h : TabE w b n) (hc : Chg S w w') (hS : ¬ S b) : TabE w' b n :=
 ⟨Nat.lt_of_lt_of_le h.1 hc.size, fun j hj f u hf hu => (World.cell?_of_block (a := ⟨b, j * 7 + f, none⟩) (hc.block b h.1 hS)).trans (h.2 j hj f u hf hu)⟩
end Go.Proofs.YtkalfhhdljndfaaGreatDoor

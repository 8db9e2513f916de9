import Derived.Test.YtgffbgmieppckaaGreatDoorSw
namespace Go.Proofs.YtgffbgmieppckaaGreatDoor
set_option maxRecDepth 100000
open Go.ChangeShapes Go.WideShapes Go.ChangeAt Go.RowKit
structure SD (w1 W : World) (bS bG : Nat) (vS vG : Value) (ss : List Se) (gs : List Gr) (last lg : Int) : Prop where
 s : SeM W bS vS ss last
 g : GrM W bG vG gs lg
 be : Below w1.heap.size w1 W
 sb : w1.heap.size ≤ bS
 gb : w1.heap.size ≤ bG
 sv : ∀ k, vS.ownBlock = some k → w1.heap.size ≤ k
 gv : ∀ k, vG.ownBlock = some k → w1.heap.size ≤ k
section
variable {w1 W W' : World} {bS bG : Nat} {vS vG : Value} {ss : List Se} {gs : List Gr} {last lg : Int}
theorem SD.size (D : SD w1 W bS bG vS vG ss gs last lg) : w1.heap.size ≤ W.heap.size := D.be.size
theorem SD.below (D : SD w1 W bS bG vS vG ss gs last lg) (hb : Below W.heap.size W W') : SD w1 W' bS bG vS vG ss gs last lg :=
 ⟨D.s.below hb, D.g.below hb, below_then D.be hb D.size, D.sb, D.gb, D.sv, D.gv⟩
theorem SD.seat {ss' : List Se} {last' : Int} (D : SD w1 W bS bG vS vG ss gs last lg) (h : SeTo W bS vS ss' last' W') : ∃ v', SD w1 W' bS bG v' vG ss' gs last' lg := by
 obtain ⟨v', h1, h2, h3⟩ := h
 exact ⟨v', h1, D.g.seats D.s h2, D.be.trans (h2.below D.size fun k hk => hk.elim (fun e => by have := D.sb; omega) (D.sv k)), D.sb, D.gb, fun k e => (h3 k e).elim (D.sv k) (fun h => Nat.le_trans D.size h), D.gv⟩
theorem SD.grant {gs' : List Gr} {lg' : Int} (D : SD w1 W bS bG vS vG ss gs last lg) (h : GrTo W bG vG gs' lg' W') : ∃ v', SD w1 W' bS bG vS v' ss gs' last lg' := by
 obtain ⟨v', h1, h2, h3⟩ := h
 exact ⟨v', D.s.grants D.g h2, h1, D.be.trans (h2.below D.size fun k hk => hk.elim (fun e => by have := D.gb; omega) (D.gv k)), D.sb, D.gb, D.sv, fun k e => (h3 k e).elim (D.gv k) (fun h => Nat.le_trans D.size h)⟩
end
section
variable {w1 W : World} {rb o : Nat} {ns : List Tx} {bl : List Nat} {r : Rt} (R : RtS w1 rb o ns bl r) {bS bG : Nat} {vS vG : Value} {ss : List Se} {gs : List Gr} {last lg : Int} (D : SD w1 W bS bG vS vG ss gs last lg) (hl : ss.length ≤ 1000)
include R D hl in
theorem sd_open {ss' : List Se} (x : Tx) (h0 : 0 ≤ last) (h1 : last ≤ 1000000000) (hk : opE (hnm r.users) x ss.length = 0) (hs : ss ++ [⟨last + 1, x, 0⟩] = ss') :
  Calls Tryz.prog 49 #[.pointer (some ⟨bS, 0, none⟩), .pointer (some ⟨rb, 0, none⟩), .string (bs x)] W fun e W' => e = .returned (.tuple #[.int .i64 (last + 1), .nilIface]) ∧ ∃ v', SD w1 W' bS bG v' vG ss' gs (last + 1) lg := by
 refine (Open_any R.B D.s D.be hl h0 h1 x).mono fun e W' h => ?_
 unfold OpTo at h
 rw [if_pos hk, hs] at h
 exact ⟨h.1, D.seat h.2⟩
include R D hl in
theorem sd_act {ss' : List Se} (hgl : gs.length ≤ 1000) (ha : ∀ s ∈ ss, s.act < 16777216) (n : Int) (x : Tx) (hk : actE ns bl r gs ss n x = 0) (hs : (sPut ss n fun s => s.act ||| oneP ns x) = ss') :
  Calls Tryz.prog 51 #[.pointer (some ⟨bS, 0, none⟩), .pointer (some ⟨rb, 0, none⟩), .pointer (some ⟨bG, 0, none⟩), .int .i64 n, .string (bs x)] W fun e W' => e = .returned .nilIface ∧ ∃ v', SD w1 W' bS bG v' vG ss' gs last lg := by
 refine (Activate_any R D.s D.g D.be hl hgl ha n x).mono fun e W' h => ?_
 unfold ActTo at h
 rw [if_pos hk, hs] at h
 exact ⟨h.1, D.seat h.2⟩
include R D hl in
theorem sd_actNo (hgl : gs.length ≤ 1000) (ha : ∀ s ∈ ss, s.act < 16777216) (n : Int) (x : Tx) {k : Int} (hk : actE ns bl r gs ss n x = k) (hk0 : k ≠ 0) :
  Calls Tryz.prog 51 #[.pointer (some ⟨bS, 0, none⟩), .pointer (some ⟨rb, 0, none⟩), .pointer (some ⟨bG, 0, none⟩), .int .i64 n, .string (bs x)] W fun e W' => e = .returned (.iface 39 (.int .i64 k)) ∧ SD w1 W' bS bG vS vG ss gs last lg := by
 refine (Activate_any R D.s D.g D.be hl hgl ha n x).mono fun e W' h => ?_
 unfold ActTo at h
 rw [hk, if_neg hk0] at h
 exact ⟨h.1, D.below h.2⟩
include R D hl in
theorem sd_may (ha : ∀ s ∈ ss, s.act < 16777216) (n : Int) (q : Tx) (hup : upperTo bl (rtHas r.perms q) ns.length < 16777216) {z : Bool} (hz : mayP bl r ns.length ss n q = z) :
  Calls Tryz.prog 53 #[.pointer (some ⟨bS, 0, none⟩), .pointer (some ⟨rb, 0, none⟩), .int .i64 n, .string (bs q)] W fun e W' => e = .returned (.bool z) ∧ SD w1 W' bS bG vS vG ss gs last lg := by
 refine (May_any R D.s D.be hl ha n q hup).mono fun e W' h => ?_
 rw [hz] at h
 exact ⟨h.1, D.below h.2⟩
include R D hl in
theorem sd_prune {ss' : List Se} {L : List Int} (hgl : gs.length ≤ 1000) (ha : ∀ s ∈ ss, s.act < 16777216) (hL : prL ns bl r gs ss = L) (hs : ss.map (prA ns bl r gs) = ss') :
  Calls Tryz.prog 54 #[.pointer (some ⟨bS, 0, none⟩), .pointer (some ⟨rb, 0, none⟩), .pointer (some ⟨bG, 0, none⟩)] W fun e W' => ∃ A c, e = .returned (.slice A L.length c) ∧ OwnN W' W.heap.size (.slice A L.length c) L ∧ ∃ v', SD w1 W' bS bG v' vG ss' gs last lg := by
 refine (Prune_any R D.s D.g D.be D.sb D.sv hl hgl ha).mono fun e W' h => ?_
 rw [hL, hs] at h
 obtain ⟨A, c, h1, h2, h3⟩ := h
 exact ⟨A, c, h1, h2, D.seat h3⟩
include D hl in
theorem sd_get (n : Int) {y : Se} (hy : sGet ss n = some y) :
  Calls Tryz.prog 55 #[.pointer (some ⟨bS, 0, none⟩), .int .i64 n] W fun e W' => e = .returned (.tuple #[.agg #[.int .i64 y.num, .string (bs y.user), .int .u32 (y.act : Nat)], .bool true]) ∧ SD w1 W' bS bG vS vG ss gs last lg ∧ Below W.heap.size W W' := by
 refine (Get_any D.s hl n).mono fun e W' h => ?_
 unfold GetTo at h
 rw [hy] at h
 exact ⟨h.1, D.below h.2, h.2⟩
end
end Go.Proofs.YtgffbgmieppckaaGreatDoor

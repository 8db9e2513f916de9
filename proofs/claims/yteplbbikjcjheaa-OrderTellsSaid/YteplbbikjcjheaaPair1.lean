/-
  Pairs: names, and pairs of them, out of numbers.
-/
import Derived.Test.YteplbbikjcjheaaPair0
import Derived.Test.YteplbbikjcjheaaOrd2
import Derived.Test.YteplbbikjcjheaaClose
import Derived.Deep.RegionHeld3
import Derived.Deep.AppendLies
namespace Go.Proofs.Yteplbbikjcjheaa
set_option maxRecDepth 100000
open Go.ChangeShapes Go.WideShapes Go.ChangeAt Go.RowKit

theorem conv_two (W : World) (b cap : Nat) (c d : Int) (h0 : 0 ≤ c) (h1 : c ≤ 255) (h2 : 0 ≤ d) (h3 : d ≤ 255) (hc : W.cell? ⟨b, 0, none⟩ = some (.int .u8 c)) (hd : W.cell? ⟨b, 1, none⟩ = some (.int .u8 d)) :
    (convert 75 9 (.slice (some ⟨b, 0, none⟩) 2 cap)).run Try.prog W = .ok (.string (bs [byteOf c.toNat, byteOf d.toNat])) W := by
  have := run_convert_bytes_back (P := Try.prog) W 75 9 5 ⟨b, 0, none⟩ cap [UInt8.ofNat c.toNat, UInt8.ofNat d.toNat] Try.underlying75 Try.underlying5 Try.underlying9 (by
    intro j hj
    have e1 : ((UInt8.ofNat c.toNat).toNat : Int) = c := by simp; omega
    have e2 : ((UInt8.ofNat d.toNat).toNat : Int) = d := by simp; omega
    simp at hj
    obtain rfl | rfl : j = 0 ∨ j = 1 := by omega
    · simp only [List.getElem_cons_zero, e1]; exact hc
    · simp only [List.getElem_cons_succ, List.getElem_cons_zero, e2]; exact hd)
  exact this

def pcells (ps : List Pr) : List Value := ps.flatMap fun p => [.string (bs p.1), .string (bs p.2)]
theorem pcells_length (ps : List Pr) : (pcells ps).length = ps.length * 2 := by
  induction ps with
  | nil => rfl
  | cons a l ih => simp only [pcells, List.flatMap_cons, List.length_append] at ih ⊢; rw [ih]; simp; omega
theorem pcells_snoc (ps : List Pr) (p : Pr) : pcells (ps ++ [p]) = pcells ps ++ [.string (bs p.1), .string (bs p.2)] := by simp [pcells]
theorem pcells_at : ∀ (ps : List Pr) (j : Nat) (h : j < ps.length), (pcells ps)[j * 2]? = some (.string (bs ps[j].1)) ∧ (pcells ps)[j * 2 + 1]? = some (.string (bs ps[j].2))
  | p :: r, 0, _ => ⟨rfl, rfl⟩
  | p :: r, j + 1, h => by
    have ih := pcells_at r j (by simpa using h)
    have e : pcells (p :: r) = .string (bs p.1) :: .string (bs p.2) :: pcells r := rfl
    rw [e, show (j + 1) * 2 = j * 2 + 1 + 1 by omega]
    simpa using ih
def OwnP (w : World) (base : Nat) (v : Value) (ps : List Pr) : Prop := w.ownsRow base 31 2 v ps.length (pcells ps)
def OwnQ (w : World) (base : Nat) (v : Value) (ps : List Pr) : Prop := w.ownsRow base 32 2 v ps.length (pcells ps)
theorem pAt_of {w : World} {base c : Nat} {A : Option Addr} {ps : List Pr} (h : OwnP w base (.slice A ps.length c) ps) : PAt w A c ps :=
  ⟨own_cap h, fun j hj => by
    obtain ⟨g, cap', e, _, hl, _, hc⟩ := own_form h (by omega)
    have eA : A = some ⟨g, 0, none⟩ := by injection e
    exact ⟨g, eA, hl, hc _ _ (pcells_at ps j hj).1, hc _ _ (pcells_at ps j hj).2⟩⟩
theorem Try.infoPair : (Try.prog.info? 31).map (fun i => (i.zero, i.size, i.bytes)) = some (some (.agg #[.string ⟨#[]⟩, .string ⟨#[]⟩]), 2, 32) := by kernel_rfl
theorem Try.infoTwo : (Try.prog.info? 32).map (fun i => (i.zero, i.size, i.bytes)) = some (some (.agg #[.string ⟨#[]⟩, .string ⟨#[]⟩]), 2, 32) := by kernel_rfl
/-- rows of unlike types lie in unlike blocks -/
theorem own_unlike {w : World} {b1 b2 e1 e2 s1 s2 n1 n2 : Nat} {v1 v2 : Value} {xs1 xs2 : List Value} (h : w.ownsRow b1 e1 s1 v1 n1 xs1) (h' : w.ownsRow b2 e2 s2 v2 n2 xs2) (hne : e1 ≠ e2) : v1.ownBlock = none ∨ v1.ownBlock ≠ v2.ownBlock := by
  rcases h.2 with ⟨hv, _⟩ | ⟨g, cap, cur, hv, _, hg, _⟩
  · left; rw [hv]; rfl
  · right
    rcases h'.2 with ⟨hv', _⟩ | ⟨g', cap', cur', hv', _, hg', _⟩
    · rw [hv, hv']; simp [Value.ownBlock]
    · rw [hv, hv']
      intro e
      have e2 : g = g' := by simpa [Value.ownBlock] using e
      subst e2
      rw [hg] at hg'
      simp only [Option.some.injEq, Obj.cells.injEq] at hg'
      exact hne hg'.2.1

theorem cells_new2 (w : World) (l : List Value) (e : TypeId) (o : Obj) : ∀ j u, l[j]? = some u → ((w.alloc (.cells l.toArray e)).alloc o).cell? ((⟨w.heap.size, 0, none⟩ : Addr).add j) = some u := by
  intro j u hu
  have hadd : (⟨w.heap.size, 0, none⟩ : Addr).add j = ⟨w.heap.size, j, none⟩ := by unfold Addr.add; split <;> simp_all
  rw [World.cell?_alloc_lt _ _ _ (by rw [hadd]; simp)]
  exact cells_new w l e j u hu
theorem cells_new1 (w : World) (o : Obj) (l : List Value) (e : TypeId) : ∀ j u, l[j]? = some u → ((w.alloc o).alloc (.cells l.toArray e)).cell? ((⟨w.heap.size + 1, 0, none⟩ : Addr).add j) = some u := by
  intro j u hu
  have h := cells_new (w.alloc o) l e j u hu
  rwa [show (w.alloc o).heap.size = w.heap.size + 1 by simp] at h
theorem news_far {W w1 : World} {row : Option Nat} {K : Nat} {l : List Value} (hg : W.grownBy w1 row) (hn : ∀ j u, l[j]? = some u → W.cell? ((⟨K, 0, none⟩ : Addr).add j) = some u) (hK : ∀ k, row = some k → k ≠ K) :
    ∀ j u, l[j]? = some u → w1.cell? ((⟨K, 0, none⟩ : Addr).add j) = some u := by
  intro j u hu
  refine hg.cell (hn j u hu) (fun e => hK K ?_ rfl)
  have hadd : ((⟨K, 0, none⟩ : Addr).add j).block = K := by unfold Addr.add; split <;> rfl
  rw [hadd] at e; exact e.symm
/-- append of a pair to one of three rows of the call's own, in a region that draws its order: the others stay -/
theorem step_app3 {Pg : Program} {w : World} {ops : Array Oper} {o : Oper} {a : Act} {K : Act → World → Prop} {Q : Exit → Act → World → Prop} {E : Prop} (hgd : o.guard = none) (s x : Operand) (t : TypeId)
    (ho : o.op = .call { callee := .builtin .append, args := #[s, x], argTypes := #[t, t] })
    (base : Nat) (e : TypeId) (i : TypeInfo) (z : Value) (ht : Pg.underlying t = some (.slice e)) (hi : Pg.info? e = some i) (hz : i.zero = some z)
    (hsize : i.size = 2) (hby : i.bytes = 32) (hzs : z.cells.size = 2)
    (v : Value) (n : Nat) (xs : List Value) (hs : a.eval s = v) (hown : w.ownsRow base e 2 v n xs)
    (ad : Addr) (X Y : ByteArray) (hx : a.eval x = .slice (some ad) 1 1) (hnews : ∀ j u, [Value.string X, Value.string Y][j]? = some u → w.cell? (ad.add j) = some u)
    (hn : n ≤ 20) (e2 : TypeId) (v2 : Value) (n2 : Nat) (xs2 : List Value) (h2 : w.ownsRow base e2 2 v2 n2 xs2) (hne2 : e2 ≠ e) (e3 : TypeId) (v3 : Value) (n3 : Nat) (xs3 : List Value) (h3 : w.ownsRow base e3 1 v3 n3 xs3) (hne3 : e3 ≠ e)
    (w0 : World) (hw0 : base = w0.heap.size) (hb : Below base w0 w)
    (h : ∀ v' w', w'.ownsRow base e 2 v' (n + 1) (xs ++ [.string X, .string Y]) → w'.ownsRow base e2 2 v2 n2 xs2 → w'.ownsRow base e3 1 v3 n3 xs3 → Below base w0 w' → w.grownBy w' v.ownBlock → K (a.put o.dst v') w') :
    if Region.wanted o (yielded ops a.tmps) = true then Oper.wp Pg o a w K Q else E := by
  have hbase : base ≤ w.heap.size := by rw [hw0]; exact hb.size
  refine step_append_lies w hgd s x t ho base e i z 2 32 ht hi hz hsize hby hzs (by omega) v n xs hs hown ad 1 1 [.string X, .string Y] hx rfl hnews (by intro u hu; simp at hu; rcases hu with rfl | rfl <;> rfl) (by omega) (by unfold maxLen; omega) (by omega) hbase _ rfl ?_
  intro g cap w1 hown1 hg hat hlt
  exact h _ w1 hown1 (h2.kept hg (own_unlike h2 hown hne2)) (h3.kept hg (own_unlike h3 hown hne3)) (hb.grown hg hbase (fun j e => (hown.lt j e).1)) hg

def PairsTo (n : Nat) (ps : List (Nat × Nat)) (w : World) (e : Ending) (w' : World) : Prop := ∃ v1 v2 v3, e = .returned (.tuple #[v1, v2, v3]) ∧ OwnL w' w.heap.size v1 (nmL n) ∧ OwnP w' w.heap.size v2 (ps.map pnm) ∧ OwnQ w' w.heap.size v3 (ps.map pnm) ∧ Below w.heap.size w w'
theorem pairsTo_mk {n : Nat} {ps : List (Nat × Nat)} {w w' : World} {v1 v2 v3 : Value} (h1 : OwnL w' w.heap.size v1 (nmL n)) (h2 : OwnP w' w.heap.size v2 (ps.map pnm)) (h3 : OwnQ w' w.heap.size v3 (ps.map pnm)) (h4 : Below w.heap.size w w') : PairsTo n ps w (.returned (.tuple #[v1, v2, v3])) w' := ⟨v1, v2, v3, rfl, h1, h2, h3, h4⟩
set_option maxHeartbeats 4000000 in
theorem Pairs_any (v : Value) (zs : List Int) (n : Nat) (up : Bool) (w : World) (hz : IntsAt w v zs) (hn : n ≤ 26) :
    Calls Try.prog 10 #[v, .int .i64 n, .bool up] w (PairsTo n (prs zs n up) w) := by
  obtain ⟨i0, hi, hz0, hz1, hz2⟩ := info_parts Try.infoString
  obtain ⟨ip, pi, pz0, pz1, pz2⟩ := info_parts Try.infoPair
  obtain ⟨iq, qi, qz0, qz1, qz2⟩ := info_parts Try.infoTwo
  obtain ⟨A, c, rfl, hzl, hzc⟩ := hz
  have HZ := Lib.hid hzc
  clear hzc
  unfold maxLen at hzl
  go_enter Try.func10, Try.ntmps10
  go_wp2
  go_loopw [9, 10] (fun l i wr => ∃ k : Nat, k ≤ n ∧ i = .int .i64 k ∧ Hid (OwnL wr w.heap.size l (nmL k)) ∧ Hid (Below w.heap.size w wr)) (fun _ i _ => n - (intOf i).toNat)
  case atStart => exact ⟨0, Nat.zero_le _, rfl, World.ownsRow_nil _ _ _ _, Below.refl _ _⟩
  case round =>
    obtain ⟨k, hk, rfl, HO, HB⟩ := hrel
    have hbz := HB.out.size
    by_cases hlt : k < n
    · have hcv : ∀ W b cap, W.cell? ⟨b, 0, none⟩ = some (.int .u8 (97 + (k : Int) % 26)) → W.cell? ⟨b, 1, none⟩ = some (.int .u8 (97 + (k : Int) / 26)) → (convert 75 9 (.slice (some ⟨b, 0, none⟩) 2 cap)).run Try.prog W = .ok (.string (bs (nmN k))) W := fun W b cap hc hd => by
        have h := conv_two W b cap _ _ (by omega) (by omega) (by omega) (by omega) hc hd
        have e1 : (97 + (k : Int) % 26).toNat = 97 + k % 26 := by omega
        have e2 : (97 + (k : Int) / 26).toNat = 97 + k / 26 := by omega
        rw [e1, e2] at h
        exact h
      have hlk := nmL_length k
      obtain ⟨A1, c1, rfl⟩ := own_slice HO.out
      have HS := Lib.hid (nmL_succ k)
      generalize nmN k = y at *
      have HLK := Lib.hid hlk
      clear hlk
      go_wp2_with (at_builtin; go_must (refine wpList_append_own _ rfl (.tmp 21) (.tmp 32) 25 rfl w.heap.size 9 i0 _ 1 16 Try.underlying25 hi hz0 hz1 hz2 rfl (by decide) _ (nmL k).length _ rfl ((HO.out.alloc _).alloc _) ⟨wr.heap.size + 1, 0, none⟩ 1 1 [.string (bs y)] rfl rfl (by have h := cells_new (wr.alloc (.cells #[.int .u8 (97 + (k : Int) % 26), .int .u8 (97 + (k : Int) / 26)] 5)) [.string (bs y)] 9; simpa using h) (by intro u hu; simp at hu; subst hu; rfl) (by rw [HLK.out]; unfold maxLen; omega) (by rw [HLK.out]; omega) (by simp; omega) ?_); intro v' w2 hown' hg' _)
      have hg2 : wr.grownBy w2 (Value.slice A1 (nmL k).length c1).ownBlock := ((World.grownBy_alloc _ _ _).andThen (World.grownBy_alloc _ _ _) (fun j e => .inr e)).andThen hg' (fun j e => .inr e)
      have HN : Hid (OwnL w2 w.heap.size v' (nmL (k + 1))) := by
        show w2.ownsRow _ _ _ _ _ _
        rw [HS.out, List.length_append]
        show w2.ownsRow _ _ _ _ _ (scells _)
        unfold scells
        rw [List.map_append]
        exact hown'
      have HB2 := Lib.hid (HB.out.grown hg2 hbz (fun j e => (HO.out.lt j e).1))
      clear hown' hg' hg2 hcv
      go_roundw
      case rel => exact ⟨k + 1, by omega, by go_num, HN, HB2⟩
      case measure => simp [intOf]; omega
    · have HK : Hid (k = n) := by show _ = _; omega
      rw [HK.out] at HO
      clear HK
      obtain ⟨A1, c1, rfl⟩ : ∃ A c, u9 = Value.slice A n c := by
        obtain ⟨A, c, e⟩ := own_slice HO.out
        exact ⟨A, c, by rw [e, nmL_length]⟩
      go_wp2
      clear hlt hk
      obtain ⟨w0, rfl⟩ : ∃ w0 : World, w0 = wr := ⟨_, rfl⟩
      go_loopw [11, 12, 13] (fun v2 v3 i wx => ∃ (k m : Nat), m ≤ 40 ∧ Hid (m = 2 * k) ∧ k ≤ min 20 (zs.length / 2) ∧ i = .int .i64 m ∧ Hid (OwnP wx w.heap.size v2 ((prsTo zs n up k).map pnm)) ∧ Hid (OwnQ wx w.heap.size v3 ((prsTo zs n up k).map pnm)) ∧ Hid (Below w.heap.size w wx) ∧ Hid (OwnL wx w.heap.size (.slice A1 n c1) (nmL n))) (fun _ _ i _ => 40 - (intOf i).toNat)
      case atStart => exact ⟨0, 0, by omega, rfl, by omega, rfl, World.ownsRow_nil _ _ _ _, World.ownsRow_nil _ _ _ _, HB, HO⟩
      case round =>
        obtain ⟨k, m, hm, HM, hk, rfl, HP, HQ, HBx, HNx⟩ := hrel
        by_cases hlt : k < min 20 (zs.length / 2)
        · have hm1 : m + 1 < zs.length := by have := HM.out; omega
          have hm2 : m < 40 := by have := HM.out; omega
          have hm3 : m + 2 ≤ 40 := by have := HM.out; omega
          have g1 : decide (m + 1 < zs.length) = true := by simpa using hm1
          have g2 : decide (m < 40) = true := by simpa using hm2
          obtain ⟨b, off, rfl, hbl, hx1, hw1⟩ := HZ.out m (by omega)
          obtain ⟨b', off', e', _, hx2, hw2⟩ := HZ.out (m + 1) (by omega)
          simp only [Option.some.injEq, Addr.mk.injEq, and_true] at e'
          obtain ⟨rfl, rfl⟩ := e'
          go_upto_region 11 with fail
          obtain ⟨wx, rfl⟩ : ∃ wx : World, wx = wr := ⟨_, rfl⟩
          have hbl1 : Below w.heap.size w wx := HBx.out
          have x1 := (hbl1.cell (p := ⟨b, off + m, none⟩) hbl).trans hx1
          have x2 := (hbl1.cell (p := ⟨b, off + (m + 1), none⟩) hbl).trans hx2
          have e1 : zs.getD (2 * k) 0 = zs[m] := by have := HM.out; subst this; simp [List.getD_eq_getElem?_getD, show 2 * k < zs.length by omega]
          have e2 : zs.getD (2 * k + 1) 0 = zs[m + 1] := by have := HM.out; subst this; simp [List.getD_eq_getElem?_getD, show 2 * k + 1 < zs.length by omega]
          have hsn : prsTo zs n up (k + 1) = prsTo zs n up k ++ pstep n up (zs.getD (2 * k) 0) (zs.getD (2 * k + 1) 0) := rfl
          rw [e1, e2] at hsn
          clear hx1 hx2 e1 e2 HZ
          generalize zs[m] = x at *
          generalize zs[m + 1] = y at *
          unfold pstep at hsn
          simp only at hsn
          have ka := within_nat x (max n 1) (by omega)
          have kb := within_nat y (max n 1) (by omega)
          have c1 := fun W => Within_any x (max n 1 : Nat) W hw1 (by omega) (by omega)
          have c2 := fun W => Within_any y (max n 1 : Nat) W hw2 (by omega) (by omega)
          have hmx : max (n : Int) 1 = ((max n 1 : Nat) : Int) := by omega
          rw [hmx] at hsn
          rw [ka.2] at c1
          rw [kb.2] at c2
          have ha := ka.1
          have hb := kb.1
          clear ka kb
          generalize (within x (max n 1 : Nat)).toNat = a at *
          generalize (within y (max n 1 : Nat)).toNat = d at *
          have hN : max n 1 ≤ n + 1 := by omega
          have hN0 : n ≠ 0 → max n 1 = n := by omega
          have HN0 := Lib.hid hN0
          generalize max n 1 = N at *
          have C1 : Hid (∀ W, Calls Try.prog 9 #[.int .i64 x, .int .i64 N] W fun e w' => e = .returned (.int .i64 a) ∧ w' = W) := fun W => (c1 W).mono fun e w' h => ⟨h.1, h.2.symm⟩
          have C2 : Hid (∀ W, Calls Try.prog 9 #[.int .i64 y, .int .i64 N] W fun e w' => e = .returned (.int .i64 d) ∧ w' = W) := fun W => (c2 W).mono fun e w' h => ⟨h.1, h.2.symm⟩
          have HSN := Lib.hid hsn
          have HMX : Hid ((if (n : Int) < 1 then 1 else (n : Int)) = (N : Int)) := by show _ = _; rw [← hmx]; split <;> omega
          clear hsn c1 c2 hw1 hw2 hN0 hmx
          have hmx := HMX.out
          have s1 : IntKind.i64.wrap ((m : Int) + 1) = (m : Int) + 1 := by rw [IntKind.wrap_i64]; omega
          have s2 : (0 : Int) ≤ (m : Int) + 1 := by omega
          have s3 : ((m : Int) + 1).toNat = m + 1 := by omega
          have s4 : (m : Int) + 1 < zs.length := by omega
          have s5 : (m : Int) < zs.length := by omega
          have s6 : (0 : Int) ≤ m := by omega
          go_quiet ((first
            | (go_at_call_of 9 (Value.int .i64 x); exact Calls.quiet_of_same (C1.out _))
            | (go_at_call_of 9 (Value.int .i64 y); exact Calls.quiet_of_same (C2.out _))))
          clear s1 s2 s3 s4 s5 s6 hmx
          have HPy : Hid (OwnP (wx.drewN nq) w.heap.size u11 (List.map pnm (prsTo zs n up k))) := HP
          have HQy : Hid (OwnQ (wx.drewN nq) w.heap.size u12 (List.map pnm (prsTo zs n up k))) := HQ
          have HBy : Hid (Below w.heap.size w (wx.drewN nq)) := below_drewN HBx.out nq
          have HNy : Hid (OwnL (wx.drewN nq) w.heap.size (.slice A1 n c1) (nmL n)) := HNx
          generalize wx.drewN nq = wy at *
          clear HP HQ HBx HNx hbl1 x1 x2 C1 C2 HMX
          by_cases hsk : (up && a == d || n == 0) = true
          · have HE : Hid (prsTo zs n up (k + 1) = prsTo zs n up k) := by show _ = _; rw [HSN.out, if_pos hsk, List.append_nil]
            clear HSN
            by_cases hn0 : n = 0
            · have hn1 : ((n : Int) == 0) = true := by simp [hn0]
              have HN0 := Lib.hid hn0
              clear hn0 hsk
              rcases bor_cases (a := up) with hu | hu
              · subst hu
                rcases bor_cases (a := ((a : Int) == (d : Int))) with hg | hg
                all_goals
                  go_wp2
                  go_roundw
                  case rel => exact ⟨k + 1, m + 2, by omega, by show _ = _; have := HM.out; omega, by omega, by go_num, by show OwnP _ _ _ _; rw [HE.out]; exact HPy.out, by show OwnQ _ _ _ _; rw [HE.out]; exact HQy.out, HBy, HNy⟩
                  case measure => simp [intOf]; omega
              · subst hu
                go_wp2
                go_roundw
                case rel => exact ⟨k + 1, m + 2, by omega, by show _ = _; have := HM.out; omega, by omega, by go_num, by show OwnP _ _ _ _; rw [HE.out]; exact HPy.out, by show OwnQ _ _ _ _; rw [HE.out]; exact HQy.out, HBy, HNy⟩
                case measure => simp [intOf]; omega
            · have hn1 : ((n : Int) == 0) = false := by simp [hn0]
              have hu : up = true ∧ a = d := by
                have : (n == 0) = false := by simp [hn0]
                rw [this] at hsk
                simpa using hsk
              obtain ⟨rfl, rfl⟩ := hu
              clear hsk hn0
              have hg : ((a : Int) == (a : Int)) = true := by simp
              go_wp2
              go_roundw
              case rel => exact ⟨k + 1, m + 2, by omega, by show _ = _; have := HM.out; omega, by omega, by go_num, by show OwnP _ _ _ _; rw [HE.out]; exact HPy.out, by show OwnQ _ _ _ _; rw [HE.out]; exact HQy.out, HBy, HNy⟩
              case measure => simp [intOf]; omega
          · have key : ∃ p q : Nat, p < n ∧ q < n ∧ prsTo zs n up (k + 1) = prsTo zs n up k ++ [(p, q)] ∧ n ≠ 0 ∧ ((up = false ∧ p = a ∧ q = d) ∨ (up = true ∧ a ≠ d ∧ ¬ d < a ∧ p = a ∧ q = d) ∨ (up = true ∧ a ≠ d ∧ d < a ∧ p = d ∧ q = a)) := by
              have h1 : n ≠ 0 := by intro e; exact hsk (by simp [e])
              have h2 := HN0.out h1
              have h3 := HSN.out
              rw [if_neg hsk] at h3
              by_cases h4 : up = true ∧ d < a
              · rw [if_pos (by simp [h4])] at h3
                exact ⟨d, a, by omega, by omega, h3, h1, .inr (.inr ⟨h4.1, by omega, h4.2, rfl, rfl⟩)⟩
              · rw [if_neg (by simpa using h4)] at h3
                refine ⟨a, d, by omega, by omega, h3, h1, ?_⟩
                cases up
                · exact .inl ⟨rfl, rfl, rfl⟩
                · refine .inr (.inl ⟨rfl, ?_, by simpa using h4, rfl, rfl⟩)
                  intro e; exact hsk (by simp [e])
            obtain ⟨p, q, hp, hq, hE, hn0, hway⟩ := key
            have HE : Hid ((prsTo zs n up (k + 1)).map pnm = (prsTo zs n up k).map pnm ++ [(nmN p, nmN q)]) := by show _ = _; rw [hE, List.map_append]; rfl
            have hPl : ((prsTo zs n up k).map pnm).length ≤ 20 := by rw [List.length_map]; have := prsTo_len zs n up k; omega
            clear HSN hsk hE
            have hn1 : ((n : Int) == 0) = false := by simp [hn0]
            clear hn0 HN0
            have hL : ListAt wy A1 c1 (nmL n) := by
              refine listAt_of (base := w.heap.size) ?_
              rw [nmL_length]; exact HNy.out
            obtain ⟨gN, eA, hgl, y1⟩ := hL.2 p (by rw [nmL_length]; exact hp)
            obtain ⟨gN', eA', _, y2⟩ := hL.2 q (by rw [nmL_length]; exact hq)
            rw [nmL_get] at y1 y2
            obtain rfl : gN = gN' := by rw [eA] at eA'; simpa using eA'
            subst eA
            have rN : wy.ownsRow w.heap.size 9 1 (.slice (some ⟨gN, 0, none⟩) n c1) n (scells (nmL n)) := by
              have h : OwnL wy w.heap.size (.slice (some ⟨gN, 0, none⟩) n c1) (nmL n) := HNy.out
              unfold OwnL at h
              rwa [nmL_length] at h
            have cX : (scells (nmL n))[p]? = some (.string (bs (nmN p))) := by simp [scells, nmL, hp]
            have cY : (scells (nmL n))[q]? = some (.string (bs (nmN q))) := by simp [scells, nmL, hq]
            clear eA' hL
            have hpl : p < n * 1 := by omega
            have hql : q < n * 1 := by omega
            generalize nmN p = X at *
            generalize nmN q = Y at *
            generalize (prsTo zs n up k).map pnm = P at *
            have hpi : (p : Int) < n := by omega
            have hqi : (q : Int) < n := by omega
            obtain ⟨B1, d1, rfl⟩ := own_slice HPy.out
            obtain ⟨B2, d2, rfl⟩ := own_slice HQy.out
            have rP : wy.ownsRow w.heap.size 31 2 (.slice B1 P.length d1) P.length (pcells P) := HPy.out
            have rQ : wy.ownsRow w.heap.size 32 2 (.slice B2 P.length d2) P.length (pcells P) := HQy.out
            have rB : Below w.heap.size w wy := HBy.out
            have rBz := rB.size
            clear HPy HQy HNy HO HB
            rcases hway with ⟨rfl, rfl, rfl⟩ | ⟨rfl, had, hlt2, rfl, rfl⟩ | ⟨rfl, had, hlt2, rfl, rfl⟩
            · go_upto_region 15 with fail
              go_region_held3 (fun w' => w'.cell? ⟨gN, p, none⟩ = some (.string (bs X)) ∧ w'.cell? ⟨gN, q, none⟩ = some (.string (bs Y)))
                (first | exact ⟨y1, y2⟩ | exact ⟨(World.ownsRow.cellAt rN2 p hpl).trans cX, (World.ownsRow.cellAt rN2 q hql).trans cY⟩ | exact ⟨(World.ownsRow.cellAt rN1 p hpl).trans cX, (World.ownsRow.cellAt rN1 q hql).trans cY⟩ | go_keep)
                (first
                  | (have _t := rP1; refine step_app3 rfl (.tmp 78) (.tmp 88) 26 rfl w.heap.size 31 ip _ Try.underlying26 pi pz0 pz1 pz2 rfl _ _ _ rfl (by first | exact rP1 | exact World.ownsRow.alloc rP1 _ | exact World.ownsRow.alloc (World.ownsRow.alloc rP1 _) _) _ (bs X) (bs Y) rfl (by first | exact cells_new _ _ _ | exact cells_new2 _ _ _ _ | exact cells_new1 _ _ _ _ | exact news_far hg1 (cells_new1 _ _ _ _) (fun k e => Nat.ne_of_lt (Nat.lt_of_lt_of_le (rP.lt k e).2 (Nat.le_succ _))) | exact news_far hg1 (cells_new1 _ _ _ _) (fun k e => Nat.ne_of_lt (Nat.lt_of_lt_of_le (rQ.lt k e).2 (Nat.le_succ _))) | exact news_far hg1 (cells_new _ _ _) (fun k e => Nat.ne_of_lt (Nat.lt_of_lt_of_le (rP.lt k e).2 (by first | exact Nat.le_refl _ | simp))) | exact news_far hg1 (cells_new2 _ _ _ _) (fun k e => Nat.ne_of_lt (Nat.lt_of_lt_of_le (rP.lt k e).2 (by first | exact Nat.le_refl _ | simp))) | exact news_far hg1 (cells_new _ _ _) (fun k e => Nat.ne_of_lt (Nat.lt_of_lt_of_le (rQ.lt k e).2 (by first | exact Nat.le_refl _ | simp))) | exact news_far hg1 (cells_new2 _ _ _ _) (fun k e => Nat.ne_of_lt (Nat.lt_of_lt_of_le (rQ.lt k e).2 (by first | exact Nat.le_refl _ | simp)))) hPl 32 _ _ _ (by first | exact rQ1 | exact World.ownsRow.alloc rQ1 _ | exact World.ownsRow.alloc (World.ownsRow.alloc rQ1 _) _) (by decide) 9 _ _ _ (by first | exact rN1 | exact World.ownsRow.alloc rN1 _ | exact World.ownsRow.alloc (World.ownsRow.alloc rN1 _) _) (by decide) w rfl (by first | exact rB1 | exact below_drew rB1 | exact Below.alloc rB1 rB1.size _ | exact Below.alloc (Below.alloc rB1 rB1.size _) (Below.alloc rB1 rB1.size _).size _ | exact Below.alloc (below_drew rB1) (below_drew rB1).size _ | exact Below.alloc (Below.alloc (below_drew rB1) (below_drew rB1).size _) (Below.alloc (below_drew rB1) (below_drew rB1).size _).size _) ?_; intro vP w2 rP2 rQ2 rN2 rB2 _)
                  | (have _t := rP1; refine step_app3 rfl (.tmp 90) (.tmp 100) 27 rfl w.heap.size 32 iq _ Try.underlying27 qi qz0 qz1 qz2 rfl _ _ _ rfl (by first | exact rQ1 | exact World.ownsRow.alloc rQ1 _ | exact World.ownsRow.alloc (World.ownsRow.alloc rQ1 _) _) _ (bs X) (bs Y) rfl (by first | exact cells_new _ _ _ | exact cells_new2 _ _ _ _ | exact cells_new1 _ _ _ _ | exact news_far hg1 (cells_new1 _ _ _ _) (fun k e => Nat.ne_of_lt (Nat.lt_of_lt_of_le (rP.lt k e).2 (Nat.le_succ _))) | exact news_far hg1 (cells_new1 _ _ _ _) (fun k e => Nat.ne_of_lt (Nat.lt_of_lt_of_le (rQ.lt k e).2 (Nat.le_succ _))) | exact news_far hg1 (cells_new _ _ _) (fun k e => Nat.ne_of_lt (Nat.lt_of_lt_of_le (rP.lt k e).2 (by first | exact Nat.le_refl _ | simp))) | exact news_far hg1 (cells_new2 _ _ _ _) (fun k e => Nat.ne_of_lt (Nat.lt_of_lt_of_le (rP.lt k e).2 (by first | exact Nat.le_refl _ | simp))) | exact news_far hg1 (cells_new _ _ _) (fun k e => Nat.ne_of_lt (Nat.lt_of_lt_of_le (rQ.lt k e).2 (by first | exact Nat.le_refl _ | simp))) | exact news_far hg1 (cells_new2 _ _ _ _) (fun k e => Nat.ne_of_lt (Nat.lt_of_lt_of_le (rQ.lt k e).2 (by first | exact Nat.le_refl _ | simp)))) hPl 31 _ _ _ (by first | exact rP1 | exact World.ownsRow.alloc rP1 _ | exact World.ownsRow.alloc (World.ownsRow.alloc rP1 _) _) (by decide) 9 _ _ _ (by first | exact rN1 | exact World.ownsRow.alloc rN1 _ | exact World.ownsRow.alloc (World.ownsRow.alloc rN1 _) _) (by decide) w rfl (by first | exact rB1 | exact below_drew rB1 | exact Below.alloc rB1 rB1.size _ | exact Below.alloc (Below.alloc rB1 rB1.size _) (Below.alloc rB1 rB1.size _).size _ | exact Below.alloc (below_drew rB1) (below_drew rB1).size _ | exact Below.alloc (Below.alloc (below_drew rB1) (below_drew rB1).size _) (Below.alloc (below_drew rB1) (below_drew rB1).size _).size _) ?_; intro vQ w2 rQ2 rP2 rN2 rB2 _)
                  | (refine step_app3 rfl (.tmp 78) (.tmp 88) 26 rfl w.heap.size 31 ip _ Try.underlying26 pi pz0 pz1 pz2 rfl _ _ _ rfl (by first | exact rP | exact World.ownsRow.alloc rP _ | exact World.ownsRow.alloc (World.ownsRow.alloc rP _) _) _ (bs X) (bs Y) rfl (by first | exact cells_new _ _ _ | exact cells_new2 _ _ _ _ | exact cells_new1 _ _ _ _ | exact news_far hg1 (cells_new1 _ _ _ _) (fun k e => Nat.ne_of_lt (Nat.lt_of_lt_of_le (rP.lt k e).2 (Nat.le_succ _))) | exact news_far hg1 (cells_new1 _ _ _ _) (fun k e => Nat.ne_of_lt (Nat.lt_of_lt_of_le (rQ.lt k e).2 (Nat.le_succ _))) | exact news_far hg1 (cells_new _ _ _) (fun k e => Nat.ne_of_lt (Nat.lt_of_lt_of_le (rP.lt k e).2 (by first | exact Nat.le_refl _ | simp))) | exact news_far hg1 (cells_new2 _ _ _ _) (fun k e => Nat.ne_of_lt (Nat.lt_of_lt_of_le (rP.lt k e).2 (by first | exact Nat.le_refl _ | simp))) | exact news_far hg1 (cells_new _ _ _) (fun k e => Nat.ne_of_lt (Nat.lt_of_lt_of_le (rQ.lt k e).2 (by first | exact Nat.le_refl _ | simp))) | exact news_far hg1 (cells_new2 _ _ _ _) (fun k e => Nat.ne_of_lt (Nat.lt_of_lt_of_le (rQ.lt k e).2 (by first | exact Nat.le_refl _ | simp)))) hPl 32 _ _ _ (by first | exact rQ | exact World.ownsRow.alloc rQ _ | exact World.ownsRow.alloc (World.ownsRow.alloc rQ _) _) (by decide) 9 _ _ _ (by first | exact rN | exact World.ownsRow.alloc rN _ | exact World.ownsRow.alloc (World.ownsRow.alloc rN _) _) (by decide) w rfl (by first | exact rB | exact below_drew rB | exact Below.alloc rB rB.size _ | exact Below.alloc (Below.alloc rB rB.size _) (Below.alloc rB rB.size _).size _ | exact Below.alloc (below_drew rB) (below_drew rB).size _ | exact Below.alloc (Below.alloc (below_drew rB) (below_drew rB).size _) (Below.alloc (below_drew rB) (below_drew rB).size _).size _) ?_; intro vP w1 rP1 rQ1 rN1 rB1 hg1)
                  | (refine step_app3 rfl (.tmp 90) (.tmp 100) 27 rfl w.heap.size 32 iq _ Try.underlying27 qi qz0 qz1 qz2 rfl _ _ _ rfl (by first | exact rQ | exact World.ownsRow.alloc rQ _ | exact World.ownsRow.alloc (World.ownsRow.alloc rQ _) _) _ (bs X) (bs Y) rfl (by first | exact cells_new _ _ _ | exact cells_new2 _ _ _ _ | exact cells_new1 _ _ _ _ | exact news_far hg1 (cells_new1 _ _ _ _) (fun k e => Nat.ne_of_lt (Nat.lt_of_lt_of_le (rP.lt k e).2 (Nat.le_succ _))) | exact news_far hg1 (cells_new1 _ _ _ _) (fun k e => Nat.ne_of_lt (Nat.lt_of_lt_of_le (rQ.lt k e).2 (Nat.le_succ _))) | exact news_far hg1 (cells_new _ _ _) (fun k e => Nat.ne_of_lt (Nat.lt_of_lt_of_le (rP.lt k e).2 (by first | exact Nat.le_refl _ | simp))) | exact news_far hg1 (cells_new2 _ _ _ _) (fun k e => Nat.ne_of_lt (Nat.lt_of_lt_of_le (rP.lt k e).2 (by first | exact Nat.le_refl _ | simp))) | exact news_far hg1 (cells_new _ _ _) (fun k e => Nat.ne_of_lt (Nat.lt_of_lt_of_le (rQ.lt k e).2 (by first | exact Nat.le_refl _ | simp))) | exact news_far hg1 (cells_new2 _ _ _ _) (fun k e => Nat.ne_of_lt (Nat.lt_of_lt_of_le (rQ.lt k e).2 (by first | exact Nat.le_refl _ | simp)))) hPl 31 _ _ _ (by first | exact rP | exact World.ownsRow.alloc rP _ | exact World.ownsRow.alloc (World.ownsRow.alloc rP _) _) (by decide) 9 _ _ _ (by first | exact rN | exact World.ownsRow.alloc rN _ | exact World.ownsRow.alloc (World.ownsRow.alloc rN _) _) (by decide) w rfl (by first | exact rB | exact below_drew rB | exact Below.alloc rB rB.size _ | exact Below.alloc (Below.alloc rB rB.size _) (Below.alloc rB rB.size _).size _ | exact Below.alloc (below_drew rB) (below_drew rB).size _ | exact Below.alloc (Below.alloc (below_drew rB) (below_drew rB).size _) (Below.alloc (below_drew rB) (below_drew rB).size _).size _) ?_; intro vQ w1 rQ1 rP1 rN1 rB1 hg1))
              all_goals
                go_wp2
                go_roundw
                case rel => exact ⟨k + 1, m + 2, hm3, by show _ = _; have := HM.out; omega, by omega, by go_num, by show World.ownsRow _ _ _ _ _ _ _; rw [HE.out, List.length_append, pcells_snoc]; exact rP2, by show World.ownsRow _ _ _ _ _ _ _; rw [HE.out, List.length_append, pcells_snoc]; exact rQ2, rB2, by show World.ownsRow _ _ _ _ _ _ _; rw [nmL_length]; exact rN2⟩
                case measure => simp [intOf]; omega
            · have hd0 : ((p : Int) == (q : Int)) = false := by simp; omega
              have hd1 : decide (q < p) = false := by simpa using hlt2
              go_upto_region 15 with fail
              go_region_held3 (fun w' => w'.cell? ⟨gN, p, none⟩ = some (.string (bs X)) ∧ w'.cell? ⟨gN, q, none⟩ = some (.string (bs Y)))
                (first | exact ⟨y1, y2⟩ | exact ⟨(World.ownsRow.cellAt rN2 p hpl).trans cX, (World.ownsRow.cellAt rN2 q hql).trans cY⟩ | exact ⟨(World.ownsRow.cellAt rN1 p hpl).trans cX, (World.ownsRow.cellAt rN1 q hql).trans cY⟩ | go_keep)
                (first
                  | (have _t := rP1; refine step_app3 rfl (.tmp 78) (.tmp 88) 26 rfl w.heap.size 31 ip _ Try.underlying26 pi pz0 pz1 pz2 rfl _ _ _ rfl (by first | exact rP1 | exact World.ownsRow.alloc rP1 _ | exact World.ownsRow.alloc (World.ownsRow.alloc rP1 _) _) _ (bs X) (bs Y) rfl (by first | exact cells_new _ _ _ | exact cells_new2 _ _ _ _ | exact cells_new1 _ _ _ _ | exact news_far hg1 (cells_new1 _ _ _ _) (fun k e => Nat.ne_of_lt (Nat.lt_of_lt_of_le (rP.lt k e).2 (Nat.le_succ _))) | exact news_far hg1 (cells_new1 _ _ _ _) (fun k e => Nat.ne_of_lt (Nat.lt_of_lt_of_le (rQ.lt k e).2 (Nat.le_succ _))) | exact news_far hg1 (cells_new _ _ _) (fun k e => Nat.ne_of_lt (Nat.lt_of_lt_of_le (rP.lt k e).2 (by first | exact Nat.le_refl _ | simp))) | exact news_far hg1 (cells_new2 _ _ _ _) (fun k e => Nat.ne_of_lt (Nat.lt_of_lt_of_le (rP.lt k e).2 (by first | exact Nat.le_refl _ | simp))) | exact news_far hg1 (cells_new _ _ _) (fun k e => Nat.ne_of_lt (Nat.lt_of_lt_of_le (rQ.lt k e).2 (by first | exact Nat.le_refl _ | simp))) | exact news_far hg1 (cells_new2 _ _ _ _) (fun k e => Nat.ne_of_lt (Nat.lt_of_lt_of_le (rQ.lt k e).2 (by first | exact Nat.le_refl _ | simp)))) hPl 32 _ _ _ (by first | exact rQ1 | exact World.ownsRow.alloc rQ1 _ | exact World.ownsRow.alloc (World.ownsRow.alloc rQ1 _) _) (by decide) 9 _ _ _ (by first | exact rN1 | exact World.ownsRow.alloc rN1 _ | exact World.ownsRow.alloc (World.ownsRow.alloc rN1 _) _) (by decide) w rfl (by first | exact rB1 | exact below_drew rB1 | exact Below.alloc rB1 rB1.size _ | exact Below.alloc (Below.alloc rB1 rB1.size _) (Below.alloc rB1 rB1.size _).size _ | exact Below.alloc (below_drew rB1) (below_drew rB1).size _ | exact Below.alloc (Below.alloc (below_drew rB1) (below_drew rB1).size _) (Below.alloc (below_drew rB1) (below_drew rB1).size _).size _) ?_; intro vP w2 rP2 rQ2 rN2 rB2 _)
                  | (have _t := rP1; refine step_app3 rfl (.tmp 90) (.tmp 100) 27 rfl w.heap.size 32 iq _ Try.underlying27 qi qz0 qz1 qz2 rfl _ _ _ rfl (by first | exact rQ1 | exact World.ownsRow.alloc rQ1 _ | exact World.ownsRow.alloc (World.ownsRow.alloc rQ1 _) _) _ (bs X) (bs Y) rfl (by first | exact cells_new _ _ _ | exact cells_new2 _ _ _ _ | exact cells_new1 _ _ _ _ | exact news_far hg1 (cells_new1 _ _ _ _) (fun k e => Nat.ne_of_lt (Nat.lt_of_lt_of_le (rP.lt k e).2 (Nat.le_succ _))) | exact news_far hg1 (cells_new1 _ _ _ _) (fun k e => Nat.ne_of_lt (Nat.lt_of_lt_of_le (rQ.lt k e).2 (Nat.le_succ _))) | exact news_far hg1 (cells_new _ _ _) (fun k e => Nat.ne_of_lt (Nat.lt_of_lt_of_le (rP.lt k e).2 (by first | exact Nat.le_refl _ | simp))) | exact news_far hg1 (cells_new2 _ _ _ _) (fun k e => Nat.ne_of_lt (Nat.lt_of_lt_of_le (rP.lt k e).2 (by first | exact Nat.le_refl _ | simp))) | exact news_far hg1 (cells_new _ _ _) (fun k e => Nat.ne_of_lt (Nat.lt_of_lt_of_le (rQ.lt k e).2 (by first | exact Nat.le_refl _ | simp))) | exact news_far hg1 (cells_new2 _ _ _ _) (fun k e => Nat.ne_of_lt (Nat.lt_of_lt_of_le (rQ.lt k e).2 (by first | exact Nat.le_refl _ | simp)))) hPl 31 _ _ _ (by first | exact rP1 | exact World.ownsRow.alloc rP1 _ | exact World.ownsRow.alloc (World.ownsRow.alloc rP1 _) _) (by decide) 9 _ _ _ (by first | exact rN1 | exact World.ownsRow.alloc rN1 _ | exact World.ownsRow.alloc (World.ownsRow.alloc rN1 _) _) (by decide) w rfl (by first | exact rB1 | exact below_drew rB1 | exact Below.alloc rB1 rB1.size _ | exact Below.alloc (Below.alloc rB1 rB1.size _) (Below.alloc rB1 rB1.size _).size _ | exact Below.alloc (below_drew rB1) (below_drew rB1).size _ | exact Below.alloc (Below.alloc (below_drew rB1) (below_drew rB1).size _) (Below.alloc (below_drew rB1) (below_drew rB1).size _).size _) ?_; intro vQ w2 rQ2 rP2 rN2 rB2 _)
                  | (refine step_app3 rfl (.tmp 78) (.tmp 88) 26 rfl w.heap.size 31 ip _ Try.underlying26 pi pz0 pz1 pz2 rfl _ _ _ rfl (by first | exact rP | exact World.ownsRow.alloc rP _ | exact World.ownsRow.alloc (World.ownsRow.alloc rP _) _) _ (bs X) (bs Y) rfl (by first | exact cells_new _ _ _ | exact cells_new2 _ _ _ _ | exact cells_new1 _ _ _ _ | exact news_far hg1 (cells_new1 _ _ _ _) (fun k e => Nat.ne_of_lt (Nat.lt_of_lt_of_le (rP.lt k e).2 (Nat.le_succ _))) | exact news_far hg1 (cells_new1 _ _ _ _) (fun k e => Nat.ne_of_lt (Nat.lt_of_lt_of_le (rQ.lt k e).2 (Nat.le_succ _))) | exact news_far hg1 (cells_new _ _ _) (fun k e => Nat.ne_of_lt (Nat.lt_of_lt_of_le (rP.lt k e).2 (by first | exact Nat.le_refl _ | simp))) | exact news_far hg1 (cells_new2 _ _ _ _) (fun k e => Nat.ne_of_lt (Nat.lt_of_lt_of_le (rP.lt k e).2 (by first | exact Nat.le_refl _ | simp))) | exact news_far hg1 (cells_new _ _ _) (fun k e => Nat.ne_of_lt (Nat.lt_of_lt_of_le (rQ.lt k e).2 (by first | exact Nat.le_refl _ | simp))) | exact news_far hg1 (cells_new2 _ _ _ _) (fun k e => Nat.ne_of_lt (Nat.lt_of_lt_of_le (rQ.lt k e).2 (by first | exact Nat.le_refl _ | simp)))) hPl 32 _ _ _ (by first | exact rQ | exact World.ownsRow.alloc rQ _ | exact World.ownsRow.alloc (World.ownsRow.alloc rQ _) _) (by decide) 9 _ _ _ (by first | exact rN | exact World.ownsRow.alloc rN _ | exact World.ownsRow.alloc (World.ownsRow.alloc rN _) _) (by decide) w rfl (by first | exact rB | exact below_drew rB | exact Below.alloc rB rB.size _ | exact Below.alloc (Below.alloc rB rB.size _) (Below.alloc rB rB.size _).size _ | exact Below.alloc (below_drew rB) (below_drew rB).size _ | exact Below.alloc (Below.alloc (below_drew rB) (below_drew rB).size _) (Below.alloc (below_drew rB) (below_drew rB).size _).size _) ?_; intro vP w1 rP1 rQ1 rN1 rB1 hg1)
                  | (refine step_app3 rfl (.tmp 90) (.tmp 100) 27 rfl w.heap.size 32 iq _ Try.underlying27 qi qz0 qz1 qz2 rfl _ _ _ rfl (by first | exact rQ | exact World.ownsRow.alloc rQ _ | exact World.ownsRow.alloc (World.ownsRow.alloc rQ _) _) _ (bs X) (bs Y) rfl (by first | exact cells_new _ _ _ | exact cells_new2 _ _ _ _ | exact cells_new1 _ _ _ _ | exact news_far hg1 (cells_new1 _ _ _ _) (fun k e => Nat.ne_of_lt (Nat.lt_of_lt_of_le (rP.lt k e).2 (Nat.le_succ _))) | exact news_far hg1 (cells_new1 _ _ _ _) (fun k e => Nat.ne_of_lt (Nat.lt_of_lt_of_le (rQ.lt k e).2 (Nat.le_succ _))) | exact news_far hg1 (cells_new _ _ _) (fun k e => Nat.ne_of_lt (Nat.lt_of_lt_of_le (rP.lt k e).2 (by first | exact Nat.le_refl _ | simp))) | exact news_far hg1 (cells_new2 _ _ _ _) (fun k e => Nat.ne_of_lt (Nat.lt_of_lt_of_le (rP.lt k e).2 (by first | exact Nat.le_refl _ | simp))) | exact news_far hg1 (cells_new _ _ _) (fun k e => Nat.ne_of_lt (Nat.lt_of_lt_of_le (rQ.lt k e).2 (by first | exact Nat.le_refl _ | simp))) | exact news_far hg1 (cells_new2 _ _ _ _) (fun k e => Nat.ne_of_lt (Nat.lt_of_lt_of_le (rQ.lt k e).2 (by first | exact Nat.le_refl _ | simp)))) hPl 31 _ _ _ (by first | exact rP | exact World.ownsRow.alloc rP _ | exact World.ownsRow.alloc (World.ownsRow.alloc rP _) _) (by decide) 9 _ _ _ (by first | exact rN | exact World.ownsRow.alloc rN _ | exact World.ownsRow.alloc (World.ownsRow.alloc rN _) _) (by decide) w rfl (by first | exact rB | exact below_drew rB | exact Below.alloc rB rB.size _ | exact Below.alloc (Below.alloc rB rB.size _) (Below.alloc rB rB.size _).size _ | exact Below.alloc (below_drew rB) (below_drew rB).size _ | exact Below.alloc (Below.alloc (below_drew rB) (below_drew rB).size _) (Below.alloc (below_drew rB) (below_drew rB).size _).size _) ?_; intro vQ w1 rQ1 rP1 rN1 rB1 hg1))
              all_goals
                go_wp2
                go_roundw
                case rel => exact ⟨k + 1, m + 2, hm3, by show _ = _; have := HM.out; omega, by omega, by go_num, by show World.ownsRow _ _ _ _ _ _ _; rw [HE.out, List.length_append, pcells_snoc]; exact rP2, by show World.ownsRow _ _ _ _ _ _ _; rw [HE.out, List.length_append, pcells_snoc]; exact rQ2, rB2, by show World.ownsRow _ _ _ _ _ _ _; rw [nmL_length]; exact rN2⟩
                case measure => simp [intOf]; omega
            · have hd0 : ((q : Int) == (p : Int)) = false := by simp; omega
              have hd1 : decide (p < q) = true := by simpa using hlt2
              go_upto_region 15 with fail
              go_region_held3 (fun w' => w'.cell? ⟨gN, p, none⟩ = some (.string (bs X)) ∧ w'.cell? ⟨gN, q, none⟩ = some (.string (bs Y)))
                (first | exact ⟨y1, y2⟩ | exact ⟨(World.ownsRow.cellAt rN2 p hpl).trans cX, (World.ownsRow.cellAt rN2 q hql).trans cY⟩ | exact ⟨(World.ownsRow.cellAt rN1 p hpl).trans cX, (World.ownsRow.cellAt rN1 q hql).trans cY⟩ | go_keep)
                (first
                  | (have _t := rP1; refine step_app3 rfl (.tmp 78) (.tmp 88) 26 rfl w.heap.size 31 ip _ Try.underlying26 pi pz0 pz1 pz2 rfl _ _ _ rfl (by first | exact rP1 | exact World.ownsRow.alloc rP1 _ | exact World.ownsRow.alloc (World.ownsRow.alloc rP1 _) _) _ (bs X) (bs Y) rfl (by first | exact cells_new _ _ _ | exact cells_new2 _ _ _ _ | exact cells_new1 _ _ _ _ | exact news_far hg1 (cells_new1 _ _ _ _) (fun k e => Nat.ne_of_lt (Nat.lt_of_lt_of_le (rP.lt k e).2 (Nat.le_succ _))) | exact news_far hg1 (cells_new1 _ _ _ _) (fun k e => Nat.ne_of_lt (Nat.lt_of_lt_of_le (rQ.lt k e).2 (Nat.le_succ _))) | exact news_far hg1 (cells_new _ _ _) (fun k e => Nat.ne_of_lt (Nat.lt_of_lt_of_le (rP.lt k e).2 (by first | exact Nat.le_refl _ | simp))) | exact news_far hg1 (cells_new2 _ _ _ _) (fun k e => Nat.ne_of_lt (Nat.lt_of_lt_of_le (rP.lt k e).2 (by first | exact Nat.le_refl _ | simp))) | exact news_far hg1 (cells_new _ _ _) (fun k e => Nat.ne_of_lt (Nat.lt_of_lt_of_le (rQ.lt k e).2 (by first | exact Nat.le_refl _ | simp))) | exact news_far hg1 (cells_new2 _ _ _ _) (fun k e => Nat.ne_of_lt (Nat.lt_of_lt_of_le (rQ.lt k e).2 (by first | exact Nat.le_refl _ | simp)))) hPl 32 _ _ _ (by first | exact rQ1 | exact World.ownsRow.alloc rQ1 _ | exact World.ownsRow.alloc (World.ownsRow.alloc rQ1 _) _) (by decide) 9 _ _ _ (by first | exact rN1 | exact World.ownsRow.alloc rN1 _ | exact World.ownsRow.alloc (World.ownsRow.alloc rN1 _) _) (by decide) w rfl (by first | exact rB1 | exact below_drew rB1 | exact Below.alloc rB1 rB1.size _ | exact Below.alloc (Below.alloc rB1 rB1.size _) (Below.alloc rB1 rB1.size _).size _ | exact Below.alloc (below_drew rB1) (below_drew rB1).size _ | exact Below.alloc (Below.alloc (below_drew rB1) (below_drew rB1).size _) (Below.alloc (below_drew rB1) (below_drew rB1).size _).size _) ?_; intro vP w2 rP2 rQ2 rN2 rB2 _)
                  | (have _t := rP1; refine step_app3 rfl (.tmp 90) (.tmp 100) 27 rfl w.heap.size 32 iq _ Try.underlying27 qi qz0 qz1 qz2 rfl _ _ _ rfl (by first | exact rQ1 | exact World.ownsRow.alloc rQ1 _ | exact World.ownsRow.alloc (World.ownsRow.alloc rQ1 _) _) _ (bs X) (bs Y) rfl (by first | exact cells_new _ _ _ | exact cells_new2 _ _ _ _ | exact cells_new1 _ _ _ _ | exact news_far hg1 (cells_new1 _ _ _ _) (fun k e => Nat.ne_of_lt (Nat.lt_of_lt_of_le (rP.lt k e).2 (Nat.le_succ _))) | exact news_far hg1 (cells_new1 _ _ _ _) (fun k e => Nat.ne_of_lt (Nat.lt_of_lt_of_le (rQ.lt k e).2 (Nat.le_succ _))) | exact news_far hg1 (cells_new _ _ _) (fun k e => Nat.ne_of_lt (Nat.lt_of_lt_of_le (rP.lt k e).2 (by first | exact Nat.le_refl _ | simp))) | exact news_far hg1 (cells_new2 _ _ _ _) (fun k e => Nat.ne_of_lt (Nat.lt_of_lt_of_le (rP.lt k e).2 (by first | exact Nat.le_refl _ | simp))) | exact news_far hg1 (cells_new _ _ _) (fun k e => Nat.ne_of_lt (Nat.lt_of_lt_of_le (rQ.lt k e).2 (by first | exact Nat.le_refl _ | simp))) | exact news_far hg1 (cells_new2 _ _ _ _) (fun k e => Nat.ne_of_lt (Nat.lt_of_lt_of_le (rQ.lt k e).2 (by first | exact Nat.le_refl _ | simp)))) hPl 31 _ _ _ (by first | exact rP1 | exact World.ownsRow.alloc rP1 _ | exact World.ownsRow.alloc (World.ownsRow.alloc rP1 _) _) (by decide) 9 _ _ _ (by first | exact rN1 | exact World.ownsRow.alloc rN1 _ | exact World.ownsRow.alloc (World.ownsRow.alloc rN1 _) _) (by decide) w rfl (by first | exact rB1 | exact below_drew rB1 | exact Below.alloc rB1 rB1.size _ | exact Below.alloc (Below.alloc rB1 rB1.size _) (Below.alloc rB1 rB1.size _).size _ | exact Below.alloc (below_drew rB1) (below_drew rB1).size _ | exact Below.alloc (Below.alloc (below_drew rB1) (below_drew rB1).size _) (Below.alloc (below_drew rB1) (below_drew rB1).size _).size _) ?_; intro vQ w2 rQ2 rP2 rN2 rB2 _)
                  | (refine step_app3 rfl (.tmp 78) (.tmp 88) 26 rfl w.heap.size 31 ip _ Try.underlying26 pi pz0 pz1 pz2 rfl _ _ _ rfl (by first | exact rP | exact World.ownsRow.alloc rP _ | exact World.ownsRow.alloc (World.ownsRow.alloc rP _) _) _ (bs X) (bs Y) rfl (by first | exact cells_new _ _ _ | exact cells_new2 _ _ _ _ | exact cells_new1 _ _ _ _ | exact news_far hg1 (cells_new1 _ _ _ _) (fun k e => Nat.ne_of_lt (Nat.lt_of_lt_of_le (rP.lt k e).2 (Nat.le_succ _))) | exact news_far hg1 (cells_new1 _ _ _ _) (fun k e => Nat.ne_of_lt (Nat.lt_of_lt_of_le (rQ.lt k e).2 (Nat.le_succ _))) | exact news_far hg1 (cells_new _ _ _) (fun k e => Nat.ne_of_lt (Nat.lt_of_lt_of_le (rP.lt k e).2 (by first | exact Nat.le_refl _ | simp))) | exact news_far hg1 (cells_new2 _ _ _ _) (fun k e => Nat.ne_of_lt (Nat.lt_of_lt_of_le (rP.lt k e).2 (by first | exact Nat.le_refl _ | simp))) | exact news_far hg1 (cells_new _ _ _) (fun k e => Nat.ne_of_lt (Nat.lt_of_lt_of_le (rQ.lt k e).2 (by first | exact Nat.le_refl _ | simp))) | exact news_far hg1 (cells_new2 _ _ _ _) (fun k e => Nat.ne_of_lt (Nat.lt_of_lt_of_le (rQ.lt k e).2 (by first | exact Nat.le_refl _ | simp)))) hPl 32 _ _ _ (by first | exact rQ | exact World.ownsRow.alloc rQ _ | exact World.ownsRow.alloc (World.ownsRow.alloc rQ _) _) (by decide) 9 _ _ _ (by first | exact rN | exact World.ownsRow.alloc rN _ | exact World.ownsRow.alloc (World.ownsRow.alloc rN _) _) (by decide) w rfl (by first | exact rB | exact below_drew rB | exact Below.alloc rB rB.size _ | exact Below.alloc (Below.alloc rB rB.size _) (Below.alloc rB rB.size _).size _ | exact Below.alloc (below_drew rB) (below_drew rB).size _ | exact Below.alloc (Below.alloc (below_drew rB) (below_drew rB).size _) (Below.alloc (below_drew rB) (below_drew rB).size _).size _) ?_; intro vP w1 rP1 rQ1 rN1 rB1 hg1)
                  | (refine step_app3 rfl (.tmp 90) (.tmp 100) 27 rfl w.heap.size 32 iq _ Try.underlying27 qi qz0 qz1 qz2 rfl _ _ _ rfl (by first | exact rQ | exact World.ownsRow.alloc rQ _ | exact World.ownsRow.alloc (World.ownsRow.alloc rQ _) _) _ (bs X) (bs Y) rfl (by first | exact cells_new _ _ _ | exact cells_new2 _ _ _ _ | exact cells_new1 _ _ _ _ | exact news_far hg1 (cells_new1 _ _ _ _) (fun k e => Nat.ne_of_lt (Nat.lt_of_lt_of_le (rP.lt k e).2 (Nat.le_succ _))) | exact news_far hg1 (cells_new1 _ _ _ _) (fun k e => Nat.ne_of_lt (Nat.lt_of_lt_of_le (rQ.lt k e).2 (Nat.le_succ _))) | exact news_far hg1 (cells_new _ _ _) (fun k e => Nat.ne_of_lt (Nat.lt_of_lt_of_le (rP.lt k e).2 (by first | exact Nat.le_refl _ | simp))) | exact news_far hg1 (cells_new2 _ _ _ _) (fun k e => Nat.ne_of_lt (Nat.lt_of_lt_of_le (rP.lt k e).2 (by first | exact Nat.le_refl _ | simp))) | exact news_far hg1 (cells_new _ _ _) (fun k e => Nat.ne_of_lt (Nat.lt_of_lt_of_le (rQ.lt k e).2 (by first | exact Nat.le_refl _ | simp))) | exact news_far hg1 (cells_new2 _ _ _ _) (fun k e => Nat.ne_of_lt (Nat.lt_of_lt_of_le (rQ.lt k e).2 (by first | exact Nat.le_refl _ | simp)))) hPl 31 _ _ _ (by first | exact rP | exact World.ownsRow.alloc rP _ | exact World.ownsRow.alloc (World.ownsRow.alloc rP _) _) (by decide) 9 _ _ _ (by first | exact rN | exact World.ownsRow.alloc rN _ | exact World.ownsRow.alloc (World.ownsRow.alloc rN _) _) (by decide) w rfl (by first | exact rB | exact below_drew rB | exact Below.alloc rB rB.size _ | exact Below.alloc (Below.alloc rB rB.size _) (Below.alloc rB rB.size _).size _ | exact Below.alloc (below_drew rB) (below_drew rB).size _ | exact Below.alloc (Below.alloc (below_drew rB) (below_drew rB).size _) (Below.alloc (below_drew rB) (below_drew rB).size _).size _) ?_; intro vQ w1 rQ1 rP1 rN1 rB1 hg1))
              all_goals
                go_wp2
                go_roundw
                case rel => exact ⟨k + 1, m + 2, hm3, by show _ = _; have := HM.out; omega, by omega, by go_num, by show World.ownsRow _ _ _ _ _ _ _; rw [HE.out, List.length_append, pcells_snoc]; exact rP2, by show World.ownsRow _ _ _ _ _ _ _; rw [HE.out, List.length_append, pcells_snoc]; exact rQ2, rB2, by show World.ownsRow _ _ _ _ _ _ _; rw [nmL_length]; exact rN2⟩
                case measure => simp [intOf]; omega
        · have HK : Hid (prs zs n up = prsTo zs n up k) := by show _ = _; unfold prs; congr 1; omega
          have HP2 : Hid (OwnP wr w.heap.size u11 ((prs zs n up).map pnm)) := by show OwnP _ _ _ _; rw [HK.out]; exact HP.out
          have HQ2 : Hid (OwnQ wr w.heap.size u12 ((prs zs n up).map pnm)) := by show OwnQ _ _ _ _; rw [HK.out]; exact HQ.out
          clear HP HQ HK HZ
          by_cases hs : m + 1 < zs.length
          · have hm4 : m = 40 := by have := HM.out; omega
            have g1 : decide (m + 1 < zs.length) = true := by simpa using hs
            have g2 : decide ((m : Int) < 40) = false := by simp [hm4]
            have hm5 : 40 ≤ m := by omega
            clear hm4 HM hlt hk
            go_wp2
            go_ret3
            exact pairsTo_mk HNx.out HP2.out HQ2.out HBx.out
          · have g1 : decide (m + 1 < zs.length) = false := by simpa using hs
            clear HM hlt hk
            go_wp2
            go_ret3
            exact pairsTo_mk HNx.out HP2.out HQ2.out HBx.out
end Go.Proofs.Yteplbbikjcjheaa

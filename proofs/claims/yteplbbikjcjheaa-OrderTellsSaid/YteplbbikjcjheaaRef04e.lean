/-
  The document's order: NewOrder: the walk.
-/
import Derived.Test.YteplbbikjcjheaaRef04d
import Derived.Test.YteplbbikjcjheaaOrd3
namespace Go.Proofs.Yteplbbikjcjheaa
set_option maxRecDepth 100000
open Go.ChangeShapes Go.WideShapes Go.ChangeAt Go.RowKit

def RefNewTo (names : List Tx) (ps : List Pr) (w : World) (e : Ending) (w' : World) : Prop := Below w.heap.size w w' ∧ match newP names ps with
  | .bad k => e = .returned (.tuple #[.pointer none, .int .i64 k])
  | .ok bl => ∃ g, e = .returned (.tuple #[.pointer (some ⟨g, 0, none⟩), .int .i64 0]) ∧ OrdD w' g names bl
theorem refNewTo_bad {names : List Tx} {ps : List Pr} {w w' : World} {k : Int} (h : newP names ps = .bad k) (hb : Below w.heap.size w w') : RefNewTo names ps w (.returned (.tuple #[.pointer none, .int .i64 k])) w' := ⟨hb, by rw [h]⟩
theorem refNewTo_ok {names : List Tx} {ps : List Pr} {w w' : World} {bl : List Nat} {g : Nat} (h : newP names ps = .ok bl) (hb : Below w.heap.size w w') (ho : OrdD w' g names bl) : RefNewTo names ps w (.returned (.tuple #[.pointer (some ⟨g, 0, none⟩), .int .i64 0])) w' := ⟨hb, by rw [h]; exact ⟨g, rfl, ho⟩⟩
theorem repl_snoc (k : Nat) : List.replicate (k + 1) 0 = List.replicate k 0 ++ [0] := by rw [List.replicate_succ']
set_option maxHeartbeats 4000000 in
theorem RefNew_any (names : List Tx) (ps : List Pr) (A B : Option Addr) (c d : Nat) (w : World) (hn : ListAt w A c names) (hp : PAt w B d ps) (hl : names.length ≤ 1000000) (hpl : ps.length ≤ 1000) :
    Calls Try.prog 13 #[.slice A names.length c, .slice B ps.length d] w (RefNewTo names ps w) := by
  by_cases hbig : 24 < names.length
  · have HE := Lib.hid (refNewTo_bad (w := w) (new_limit (ps := ps) hbig) (Below.refl _ _))
    have h1 : decide (24 < names.length) = true := by simpa using hbig
    go_enter Try.func13, Try.ntmps13
    go_wp2
    go_ret2
    exact HE.out
  have hf : names.length ≤ 24 := by omega
  have hbg : decide (24 < names.length) = false := by simpa using hbig
  obtain ⟨i0, hi, hz0, hz1, hz2⟩ := info_parts Try.infoU32
  have HN := Lib.hid hn
  have HP := Lib.hid hp
  have hcc := hn.1
  have hdd := hp.1
  have R0 : RN w (w.alloc (.cells #[.slice A names.length c, .slice none 0 0] 85)) A names.length c (.slice none 0 0) [] :=
    ⟨heap_alloc_new _ _, World.ownsRow_nil _ _ _ _, (Below.refl _ _).alloc (Nat.le_refl _) _⟩
  have HR0 := Lib.hid R0
  clear R0 hn hp hbig
  go_enter Try.func13, Try.ntmps13
  go_wp2
  go_loopw [24] (fun i wr => ∃ (k : Nat) (v : Value), k ≤ names.length ∧ i = .int .i64 k ∧ Hid (RN w wr A names.length c v (List.replicate k 0)) ∧ Hid ((names.take k).Nodup)) (fun i _ => names.length - (intOf i).toNat)
  case atStart => exact ⟨0, _, Nat.zero_le _, rfl, HR0, by show List.Nodup _; simp⟩
  case round =>
    obtain ⟨k, v, hk, rfl, HR, HD⟩ := hrel
    by_cases hlt : k < names.length
    · obtain ⟨gN, rfl, hgl, hxk⟩ := (HN.out.below HR.out.below).2 k hlt
      have ix := RIndex_any w.heap.size names wr (some ⟨gN, 0, none⟩) c names[k] HR.out.q0 (HN.out.below HR.out.below) hl
      by_cases hm : names[k] ∈ names.take k
      · have HE := Lib.hid (refNewTo_bad (w := w) (w' := wr) (new_there (ps := ps) hf (fun hnd => (nodup_next hlt).1 (nodup_take hnd (k + 1)) |>.2 hm)) HR.out.below)
        have hne : (idxI names names[k] != (k : Int)) = true := by rw [bne_iff_ne]; exact fun e => (idxI_first hlt).1 e hm
        have IX := Lib.hid ix
        clear ix hm
        generalize idxI names names[k] = r at *
        generalize names[k] = y at *
        go_wp2_with (go_at_call 20; refine IX.out.mono ?_; rintro e w1 ⟨rfl, rfl⟩)
        go_ret2
        exact HE.out
      · have HT : Hid ((names.take (k + 1)).Nodup) := (nodup_next hlt).2 ⟨HD.out, hm⟩
        rw [(idxI_first hlt).2 hm] at ix
        have IX := Lib.hid ix
        have p1 := HR.out.q1
        have hown := HR.out.own
        have hsn := repl_snoc k
        have HSN := Lib.hid hsn
        have hlr : (List.replicate k 0).length = k := by simp
        have HLR := Lib.hid hlr
        have hwlt := HR.out.lt
        clear ix hm hsn hlr
        generalize names[k] = y at *
        generalize List.replicate k 0 = zs at *
        go_wp2_with (first
          | (go_at_call 20; refine IX.out.mono ?_; rintro e w1 ⟨rfl, rfl⟩)
          | (at_builtin; go_must (refine wpList_append_own _ rfl (.tmp 39) (.tmp 40) 54 rfl (w.heap.size + 1) 23 i0 _ 1 4 Try.underlying54 hi hz0 hz1 hz2 rfl (by decide) v zs.length (ucells zs) rfl (hown.alloc _) ⟨wr.heap.size, 0, none⟩ 1 1 [.int .u32 0] rfl rfl (cells_new _ _ _) (by intro u hu; simp at hu; subst hu; rfl) (by rw [HLR.out]; unfold maxLen; omega) (by rw [HLR.out]; omega) (by simp; omega) ?_); intro v' w4 hown' hg' _; obtain ⟨A5, c5, rfl⟩ := own_slice hown'; have hg2 : wr.grownBy w4 v.ownBlock := (World.grownBy_alloc _ _ _).andThen hg' (fun j e => .inr e); have row4 := (hg2.block _ HR.out.lt HR.out.ne).trans HR.out.row; have c4 : w4.cell? ⟨w.heap.size, 1, none⟩ = some v := (by rw [cell_of_row _ _ _ _ _ _ row4]; rfl); have f4 : w4.frozen? ⟨w.heap.size, 1, none⟩ = false := (by simp [World.frozen?, row4])))
        have HR4 : Hid (RN w (w4.setCell ⟨w.heap.size, 1, none⟩ (.slice A5 (zs.length + 1) c5)) (some ⟨gN, 0, none⟩) names.length c (.slice A5 (zs.length + 1) c5) (List.replicate (k + 1) 0)) := by
          refine HR.out.grow hg2 ?_
          rw [HSN.out, List.length_append]
          have e : ucells (zs ++ [0]) = ucells zs ++ [.int .u32 0] := by simp [ucells]
          rw [e]; exact hown'
        clear hown hown' hg' hg2 row4 c4 f4 p1
        generalize w4.setCell ⟨w.heap.size, 1, none⟩ (.slice A5 (zs.length + 1) c5) = w5 at *
        go_roundw
        case rel => exact ⟨k + 1, _, by omega, by go_num, HR4, HT⟩
        case measure => simp [intOf]; omega
    · have HND : Hid names.Nodup := by have := HD.out; rwa [List.take_of_length_le (by omega)] at this
      have HK : Hid (k = names.length) := by show _ = _; omega
      rw [HK.out] at HR
      have HRp : Hid (RN w wr A names.length c v (psL names [])) := HR
      clear HR HK
      go_wp2
      clear hlt hk HD HR0 hbg
      go_loopw [47] (fun i wr => ∃ (k : Nat) (v : Value), k ≤ ps.length ∧ i = .int .i64 k ∧ Hid (RN w wr A names.length c v (psL names (ps.take k))) ∧ Hid (∀ p ∈ ps.take k, inN names p = true)) (fun i _ => ps.length - (intOf i).toNat)
      case atStart => exact ⟨0, v, Nat.zero_le _, rfl, by show RN _ _ _ _ _ _ (psL names (ps.take 0)); rw [List.take_zero]; exact HRp.out, fun p hp => by simp at hp⟩
      case round =>
        obtain ⟨k, v, hk, rfl, HR, HI⟩ := hrel
        by_cases hlt : k < ps.length
        · obtain ⟨gP, rfl, hgl, hx, hy⟩ := (HP.out.below HR.out.below).2 k hlt
          have hll : (psL names (ps.take k)).length = names.length := psL_length _ _
          have hsn : psL names (ps.take (k + 1)) = pset names (psL names (ps.take k)) ps[k] := by rw [List.take_succ_eq_append_getElem hlt, psL_snoc]
          have hall : inN names ps[k] = true → ∀ p ∈ ps.take (k + 1), inN names p = true := fun h p hp => by
            rw [List.take_succ_eq_append_getElem hlt] at hp
            rcases List.mem_append.1 hp with hp | hp
            · exact HI.out p hp
            · rw [List.mem_singleton.1 hp]; exact h
          have hbad := fun h => all_bad (names := names) hlt h
          have hlo2 := (psL_all names hf (ps.take k) HI.out).2.1
          generalize ps[k] = p at *
          obtain ⟨sn, jn⟩ := p
          go_upto_region 14 with fail
          have RA := HR.out.alloc (.cells #[.string (bs sn), .string (bs jn)] 32)
          have Rw := heap_alloc_new wr (.cells #[.string (bs sn), .string (bs jn)] 32)
          have z1 : (wr.alloc (.cells #[.string (bs sn), .string (bs jn)] 32)).cell? ⟨wr.heap.size, 0, none⟩ = some (.string (bs sn)) := by rw [cell_of_row _ _ _ _ _ _ Rw]; rfl
          have z2 : (wr.alloc (.cells #[.string (bs sn), .string (bs jn)] 32)).cell? ⟨wr.heap.size, 1, none⟩ = some (.string (bs jn)) := by rw [cell_of_row _ _ _ _ _ _ Rw]; rfl
          clear Rw HR
          generalize wr.alloc (.cells #[.string (bs sn), .string (bs jn)] 32) = wa at *
          have IQ : Hid (∀ x m, Calls Try.prog 20 #[.pointer (some ⟨w.heap.size, 0, none⟩), .string (bs x)] (wa.drewN m) fun e w' => e = .returned (.int .i64 (idxI names x)) ∧ w' = wa.drewN m) := fun x m => by
            have R := RA.far (below_drewN (Below.refl wa.heap.size wa) m)
            exact (RIndex_any w.heap.size names (wa.drewN m) A c x R.q0 (HN.out.below R.below) hl).mono fun e w' h => ⟨h.1, h.2.symm⟩
          have I1 := Lib.hid (IQ.out sn)
          have I2 := Lib.hid (IQ.out jn)
          have HRA := Lib.hid RA
          clear IQ RA
          by_cases h1 : sn ∈ names
          · rw [idxI_in h1] at I1
            have hai := idx_lt h1
            by_cases h2 : jn ∈ names
            · rw [idxI_in h2] at I2
              have hbi := idx_lt h2
              have HA2 := Lib.hid (hall (by simp [inN, h1, h2]))
              unfold pset at hsn
              simp only at hsn
              clear hbad hall h1 h2
              generalize idx names sn = a at *
              generalize idx names jn = b at *
              generalize psL names (ps.take k) = cur at *
              go_quiet ((first
                | (go_at_call_of 20 (Value.string (bs sn)); exact Calls.quiet_of_same (I1.out _))
                | (go_at_call_of 20 (Value.string (bs jn)); exact Calls.quiet_of_same (I2.out _))))
              have RD := HRA.out.far (below_drewN (Below.refl wa.heap.size wa) nq)
              clear z1 z2 I1 I2 HRA
              generalize wa.drewN nq = wb at *
              obtain ⟨h, dd, rfl, hdl, x1, f1⟩ := RD.cell (j := a) (by omega)
              have q1 := RD.q1
              have HST := Lib.hid (RD.store a (cur.getD a 0 ||| bitN b))
              rw [← hsn] at HST
              have hv := or_val (cur.getD a 0) (bitN b) (hlo2 a) (pow_lo (by omega))
              have hbv := bit_val (i := b) (by omega)
              have ga : decide ((a : Int) < 0) = false := by simp
              have gb : decide ((b : Int) < 0) = false := by simp
              have ja : (a : Int) < names.length := by omega
              have HLC := Lib.hid hll
              rw [hll] at HST q1
              clear RD hsn hlo2 hdl hll
              generalize cur.getD a 0 ||| bitN b = z at *
              generalize cur.getD a 0 = y at *
              generalize bitN b = bb at *
              go_wp2
              have HS2 := Lib.hid HST.out
              generalize wb.setCell ⟨h, a, none⟩ (.int .u32 z) = wc at *
              go_roundw
              case rel => exact ⟨k + 1, _, by omega, by go_num, HS2.out, HA2⟩
              case measure => simp [intOf]; omega
            · rw [idxI_out h2] at I2
              have HE := Lib.hid (fun w' => refNewTo_bad (w := w) (w' := w') (new_none (ps := ps) hf HND.out (hbad (by simp [inN, h2]))))
              clear hbad hall h1 h2 hsn hlo2 hll
              generalize idx names sn = a at *
              go_quiet ((first
                | (go_at_call_of 20 (Value.string (bs sn)); exact Calls.quiet_of_same (I1.out _))
                | (go_at_call_of 20 (Value.string (bs jn)); exact Calls.quiet_of_same (I2.out _))))
              have RD := Lib.hid (HRA.out.far (below_drewN (Below.refl wa.heap.size wa) nq)).below
              clear z1 z2 I1 I2 HRA
              generalize wa.drewN nq = wb at *
              have ga : decide ((a : Int) < 0) = false := by simp
              go_wp2
              go_ret2
              exact HE.out _ RD.out
          · rw [idxI_out h1] at I1
            have HE := Lib.hid (fun w' => refNewTo_bad (w := w) (w' := w') (new_none (ps := ps) hf HND.out (hbad (by simp [inN, h1]))))
            clear hbad hall h1 hsn hlo2 hll
            generalize idxI names jn = r at *
            go_quiet ((first
              | (go_at_call_of 20 (Value.string (bs sn)); exact Calls.quiet_of_same (I1.out _))
              | (go_at_call_of 20 (Value.string (bs jn)); exact Calls.quiet_of_same (I2.out _))))
            have RD := Lib.hid (HRA.out.far (below_drewN (Below.refl wa.heap.size wa) nq)).below
            clear z1 z2 I1 I2 HRA
            generalize wa.drewN nq = wb at *
            go_wp2
            go_ret2
            exact HE.out _ RD.out
        · have HT : Hid (ps.take k = ps) := List.take_of_length_le (by omega)
          rw [HT.out] at HR HI
          have hall := all_take HI.out
          have hlo := (psL_all names hf ps HI.out).2.1
          have hpn := psL_length names ps
          have E6 := Lib.hid (fun w' (h : circ (folL names ps) = true) => refNewTo_bad (w := w) (w' := w') (new_circle (ps := ps) hf HND.out hall h))
          have E0 := Lib.hid (fun (h : circ (folL names ps) = false) => new_ok (ps := ps) hf HND.out hall h)
          have hfl := folL_length names ps
          have hlf := folL_lo hf hall
          have EF : Hid (refTo (psL names ps) names.length = folL names ps) := by
            have h := refTo_fol (psL names ps)
            rw [hpn] at h
            exact h
          have HPN := Lib.hid hpn; have HLO := Lib.hid hlo; have HFL := Lib.hid hfl; have HLF := Lib.hid hlf
          clear hpn hlo hfl hlf hall HI HT HRp HP
          generalize psL names ps = bl0 at *
          generalize folL names ps = fl at *
          generalize hNN : names.length = N at *
          have HNN := Lib.hid hNN
          clear hNN
          go_wp2
          clear hlt hk
          go_loopw [80] (fun i wr => ∃ (t : Nat) (v : Value), t ≤ N ∧ i = .int .i64 t ∧ Hid (RN w wr A N c v (refTo bl0 t))) (fun i _ => N - (intOf i).toNat)
          case atStart => exact ⟨0, v, Nat.zero_le _, rfl, HR⟩
          case round =>
            obtain ⟨t, v, ht, rfl, HR⟩ := hrel
            by_cases htl : t < N
            · have hct : (refTo bl0 t).length = N := by rw [refTo_length, HPN.out]
              have hlt := refTo_lo HLO.out t
              have HST : Hid (refTo bl0 (t + 1) = rndTo (refTo bl0 t) N) := by show _ = _; rw [refTo, HPN.out]
              generalize refTo bl0 t = ct at *
              go_upto_region 22 with fail
              go_loopw [84] (fun i wr => ∃ (k : Nat) (v : Value), k ≤ N ∧ i = .int .i64 k ∧ Hid (RN w wr A N c v (rndTo ct k))) (fun i _ => N - (intOf i).toNat)
              case atStart => exact ⟨0, v, Nat.zero_le _, rfl, HR⟩
              case round =>
                obtain ⟨i, v, hi, rfl, HR⟩ := hrel
                by_cases hil : i < N
                · have hci : (rndTo ct i).length = N := by rw [rndTo_length, hct]
                  have hli := rndTo_lo hlt i (by omega)
                  have HSI : Hid (rndTo ct (i + 1) = rowTo i (rndTo ct i) N) := by show _ = _; rw [rndTo, hct]
                  generalize rndTo ct i = ci at *
                  go_upto_region 25 with fail
                  go_loopw [89] (fun j wr => ∃ (k : Nat) (v : Value), k ≤ N ∧ j = .int .i64 k ∧ Hid (RN w wr A N c v (rowTo i ci k))) (fun j _ => N - (intOf j).toNat)
                  case atStart => exact ⟨0, v, Nat.zero_le _, rfl, HR⟩
                  case round =>
                    obtain ⟨k, v, hk, rfl, HR⟩ := hrel
                    by_cases hkl : k < N
                    · have hcl : (rowTo i ci k).length = N := by rw [rowTo_length, hci]
                      have hlo2 := rowTo_lo hli (by omega) (i := i) k
                      have hs : rowTo i ci (k + 1) = put1 k i (rowTo i ci k) := rfl
                      generalize rowTo i ci k = cur at *
                      obtain ⟨h, dd, rfl, hdl, x1, f1⟩ := HR.out.cell (j := i) (by omega)
                      obtain ⟨h', dd', e', _, x2, _⟩ := HR.out.cell (j := k) (by omega)
                      simp only [Value.slice.injEq, Option.some.injEq, Addr.mk.injEq, and_true, true_and] at e'
                      obtain ⟨rfl, rfl⟩ := e'
                      have q1 := HR.out.q1
                      have hbit := shr_bit0 (cur.getD i 0) k (lo_32 hlo2 i)
                      have ji : (i : Int) < N := by omega
                      have jk : (k : Int) < N := by omega
                      have ji0 : (0 : Int) ≤ i := by omega
                      have jk0 : (0 : Int) ≤ k := by omega
                      by_cases hr : rel cur i k = true
                      · rw [put1_cell hr] at hs
                        rw [show (cur.getD i 0).testBit k = true from hr] at hbit
                        have HST2 := Lib.hid (HR.out.store i (cur.getD i 0 ||| cur.getD k 0))
                        rw [← hs] at HST2
                        have hv := or_val _ _ (hlo2 i) (hlo2 k)
                        rw [hcl] at HST2 q1
                        clear hr hs hlo2 hcl hdl HR
                        generalize cur.getD i 0 ||| cur.getD k 0 = z at *
                        generalize cur.getD i 0 = y at *
                        generalize cur.getD k 0 = x at *
                        go_upto_region 28 with fail
                        go_region
                        have HS5 := Lib.hid HST2.out.drew
                        generalize (wr.setCell ⟨h, i, none⟩ (.int .u32 z)).drew = w5 at HS5 ⊢
                        clear HST2
                        go_wp2
                        go_roundw
                        case rel => exact ⟨k + 1, _, by omega, by go_num, HS5⟩
                        case measure => simp [intOf]; omega
                      · have hr' : rel cur i k = false := by simpa using hr
                        rw [put1_same hr'] at hs
                        rw [show (cur.getD i 0).testBit k = false from hr'] at hbit
                        have HS5 : Hid (RN w wr A N c (.slice (some ⟨h, 0, none⟩) cur.length dd) (rowTo i ci (k + 1))) := by rw [hs]; exact HR
                        rw [hcl] at HS5 q1
                        clear hr hr' hs hlo2 hcl hdl HR x2
                        generalize cur.getD i 0 = y at *
                        go_wp2
                        go_roundw
                        case rel => exact ⟨k + 1, _, by omega, by go_num, HS5⟩
                        case measure => simp [intOf]; omega
                    · have HS5 : Hid (RN w wr A N c v (rndTo ct (i + 1))) := by
                        have e : k = N := by omega
                        have h := HR
                        rw [e] at h
                        rw [HSI.out]; exact h
                      go_wp2
                      go_roundw
                      case rel => exact ⟨i + 1, v, by omega, by go_num, HS5⟩
                      case measure => simp [intOf]; omega
                · have HS5 : Hid (RN w wr A N c v (refTo bl0 (t + 1))) := by
                    have e : i = N := by omega
                    have h := HR
                    rw [e] at h
                    rw [HST.out]; exact h
                  go_wp2
                  go_roundw
                  case rel => exact ⟨t + 1, v, by omega, by go_num, HS5⟩
                  case measure => simp [intOf]; omega
            · have HF : Hid (RN w wr A N c v fl) := by
                have e : t = N := by omega
                have h := HR
                rw [e] at h
                rw [← EF.out]; exact h
              clear HR EF HLO HPN
              go_wp2
              clear htl ht
              obtain ⟨w7, rfl⟩ : ∃ w7 : World, w7 = wr := ⟨_, rfl⟩
              have q1 := HF.out.q1
              go_loop [125] (fun i => ∃ k : Nat, k ≤ N ∧ i = .int .i64 k ∧ Hid (∀ j, j < k → rel fl j j = false)) (fun i => N - (intOf i).toNat)
              case atStart => exact ⟨0, Nat.zero_le _, rfl, fun j hj => by omega⟩
              case round =>
                obtain ⟨k, hk, rfl, HI⟩ := hrel
                by_cases hkl : k < N
                · obtain ⟨h, dd, rfl, hdl, x1, f1⟩ := HF.out.cell (j := k) (by rw [HFL.out]; exact hkl)
                  have hbit := shr_bit0 (fl.getD k 0) k (lo_32 HLF.out k)
                  have jk : (k : Int) < N := by omega
                  have jk0 : (0 : Int) ≤ k := by omega
                  by_cases hm : rel fl k k = true
                  · have HE := Lib.hid (E6.out w7 (circ_any (by rw [HFL.out]; exact hkl) hm) HF.out.below)
                    rw [show (fl.getD k 0).testBit k = true from hm] at hbit
                    rw [HFL.out] at q1
                    clear hm E6 E0
                    generalize fl.getD k 0 = y at *
                    go_wp2
                    go_ret2
                    exact HE.out
                  · have hm' : rel fl k k = false := by simpa using hm
                    have HT : Hid (∀ j, j < k + 1 → rel fl j j = false) := fun j hj => by
                      by_cases e : j = k
                      · rw [e]; exact hm'
                      · exact HI.out j (by omega)
                    rw [show (fl.getD k 0).testBit k = false from hm'] at hbit
                    rw [HFL.out] at q1
                    clear hm hm'
                    generalize fl.getD k 0 = y at *
                    go_wp2
                    go_round
                    case rel => exact ⟨k + 1, by omega, by go_num, HT⟩
                    case measure => simp [intOf]; omega
                · have HE0 := Lib.hid (E0.out (circ_no (fun j hj => HI.out j (by have := HFL.out; omega))))
                  clear E0 E6 HI q1
                  go_wp2
                  clear hkl hk
                  go_loopw [143] (fun i wr => ∃ (k : Nat) (v : Value), k ≤ N ∧ i = .int .i64 k ∧ Hid (RN w wr A N c v (selfTo fl k))) (fun i _ => N - (intOf i).toNat)
                  case atStart => exact ⟨0, v, Nat.zero_le _, rfl, HF⟩
                  case round =>
                    obtain ⟨k, v, hk, rfl, HR⟩ := hrel
                    have hsl : (selfTo fl k).length = N := by rw [selfTo_length, HFL.out]
                    by_cases hkl : k < N
                    · have hlo2 := selfTo_lo HLF.out (by rw [HFL.out]; exact hf) k (by rw [HFL.out]; omega)
                      have hsn : selfTo fl (k + 1) = (selfTo fl k).set k ((selfTo fl k).getD k 0 ||| bitN k) := rfl
                      generalize selfTo fl k = cur at *
                      obtain ⟨h, dd, rfl, hdl, x1, f1⟩ := HR.out.cell (j := k) (by omega)
                      have q1 := HR.out.q1
                      have HST2 := Lib.hid (HR.out.store k (cur.getD k 0 ||| bitN k))
                      rw [← hsn] at HST2
                      have hv := or_val (cur.getD k 0) (bitN k) (hlo2 k) (pow_lo (by omega))
                      have hbv := bit_val (i := k) (by omega)
                      have jk : (k : Int) < N := by omega
                      have jk0 : (0 : Int) ≤ k := by omega
                      rw [hsl] at HST2 q1
                      clear hsn hlo2 hsl hdl HR
                      generalize cur.getD k 0 ||| bitN k = z at *
                      generalize cur.getD k 0 = y at *
                      generalize bitN k = bb at *
                      go_wp2
                      have HS2 := Lib.hid HST2.out
                      generalize wr.setCell ⟨h, k, none⟩ (.int .u32 z) = wc at *
                      go_roundw
                      case rel => exact ⟨k + 1, _, by omega, by go_num, HS2.out⟩
                      case measure => simp [intOf]; omega
                    · have e : k = N := by omega
                      rw [e, ← HNN.out] at HR
                      rw [e] at hsl
                      have HEF : Hid (RefNewTo names ps w (.returned (.tuple #[.pointer (some ⟨w.heap.size, 0, none⟩), .int .i64 0])) wr) := by
                        have R := HR.out
                        refine refNewTo_ok (by rw [HE0.out]) R.below ?_
                        rw [HNN.out] at R
                        refine ⟨by rw [HNN.out]; exact hf, ?_, R.lt, ⟨A, c, by rw [HNN.out]; exact R.q0, HN.out.below R.below⟩, ?_⟩
                        · exact selfTo_lo HLF.out (by rw [HFL.out]; exact hf) _ (by rw [HFL.out]; exact Nat.le_refl _)
                        · rw [HNN.out]
                          obtain ⟨B', d', ev⟩ := own_slice R.own
                          have q1 := R.q1
                          rw [ev, hsl] at q1
                          refine ⟨B', d', q1, ?_, fun j hj => ?_⟩
                          · have := R.own
                            rw [ev] at this
                            have := own_cap this
                            omega
                          · obtain ⟨h, dd, e2, _, x1, _⟩ := R.cell (j := j) (by omega)
                            rw [ev] at e2
                            simp only [Value.slice.injEq] at e2
                            refine ⟨h, e2.1, World.block_lt_of_cell? wr _ x1, x1⟩
                      clear HR hsl
                      go_wp2
                      go_ret2
                      exact HEF.out
end Go.Proofs.Yteplbbikjcjheaa

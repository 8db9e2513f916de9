/-
  Package step: in, own, entered.
-/
import Derived.Test.YtbacdllokgcohaaSt0
namespace Go.Proofs.Ytbacdllokgcohaa
set_option maxRecDepth 100000
open Go.ChangeShapes Go.WideShapes Go.ChangeAt Go.RowKit

abbrev chV (AN AK AP AT : Option Addr) (nN cN nK cK nP cP nT cT : Nat) : Value := .agg #[.slice AN nN cN, .slice AK nK cK, .slice AP nP cP, .slice AT nT cT]
theorem in_any (AN AK AP AT : Option Addr) (nN cN n cK nP cP nT cT : Nat) (s k : Nat) (vP vS : Value) (w : World) (hs : s < 4294967296) (hk : k < n) (hn : n ≤ 24) :
    Calls Try.prog 36 #[chV AN AK AP AT nN cN n cK nP cP nT cT, .agg #[.int .u32 s, vP, vS], .int .i64 k] w fun e w' => e = .returned (.bool (s.testBit k)) ∧ Below w.heap.size w w' := by
  have HV := Lib.hid (has_shr s k hs (by omega))
  have h1 : (0 : Int) ≤ k := by omega
  have h2 : (k : Int) < n := by omega
  have hz := below_then (box_b w (.cells #[.slice AN nN cN, .slice AK n cK, .slice AP nP cP, .slice AT nT cT] 28)) (box_b _ (.cells #[.int .u32 s, vP, vS] 36)) (box_b w (.cells #[.slice AN nN cN, .slice AK n cK, .slice AP nP cP, .slice AT nT cT] 28)).size
  have HZ := Lib.hid hz
  clear hz
  go_enter Try.func36, Try.ntmps36
  go_wp2
  go_ret
  exact ⟨ret_bool HV.out, HZ.out⟩
theorem mk_int (n : Nat) (hn : n ≤ 1000) (W : World) : (Instr.makeSlice 22 (.int .i64 n) (.int .i64 n)).run Try.prog W = .ok (.slice (some ⟨W.heap.size, 0, none⟩) n n) (W.alloc (.cells (Array.replicate n (Value.int .i64 0)) 3)) := by
  obtain ⟨i0, hi, hz0, hz1, hz2⟩ := info_parts Try.infoInt
  have h := run_make (P := Try.prog) W 22 3 i0 _ Try.underlying22 hi hz0 .i64 .i64 (n : Int) (n : Int) (by omega) (Int.le_refl _) (by rw [hz2]; omega) (by omega)
  rw [h, Int.toNat_natCast, hz1, Nat.mul_one]
  congr 3
  apply Array.ext
  · simp [madeCells]
  · intro j h1 h2
    simp [madeCells, Value.cells, Nat.mod_one]
/-- a list of integers, as long as there are states -/
def padI (n : Nat) (zs : List Int) : List Int := zs ++ List.replicate (n - zs.length) 0
theorem padL_self {n : Nat} {rs : List Nat} (h : rs.length = n) : padL n rs = rs := by unfold padL; rw [h, Nat.sub_self]; simp
theorem padI_self {n : Nat} {zs : List Int} (h : zs.length = n) : padI n zs = zs := by unfold padI; rw [h, Nat.sub_self]; simp
theorem ints_src {W : World} {A : Option Addr} {c : Nat} {zs : List Int} (h : IntsAt W (.slice A zs.length c) zs) (hp : 0 < (icells zs).length) : ∃ ad, A = some ad ∧ ∀ j u, (icells zs)[j]? = some u → W.cell? (ad.add j) = some u := by
  have hl : (icells zs).length = zs.length := by simp [icells]
  rw [hl] at hp
  obtain ⟨b, off, e, hb, hx, _⟩ := ints_cell h (k := 0) hp
  refine ⟨⟨b, off, none⟩, e, fun j u hu => ?_⟩
  have hj : j < zs.length := by have := (List.getElem?_eq_some_iff.1 hu).1; omega
  obtain ⟨b', off', e', _, hx', _⟩ := ints_cell h (k := j) hj
  rw [e] at e'
  injection e' with e'
  injection e' with e1 e2
  subst e1; subst e2
  rw [Go.WideShapes.add_plain, hx', ← hu, icells_at zs j hj]
  simp [List.getD_eq_getElem?_getD, hj]
theorem u32s_src {W : World} {A : Option Addr} {c : Nat} {rs : List Nat} (h : U32sAt W (.slice A rs.length c) rs) (hp : 0 < (ucl rs).length) : ∃ ad, A = some ad ∧ ∀ j u, (ucl rs)[j]? = some u → W.cell? (ad.add j) = some u := by
  rw [ucl_len] at hp
  obtain ⟨b, off, e, hb, hx, _⟩ := u32s_cell h (k := 0) hp
  refine ⟨⟨b, off, none⟩, e, fun j u hu => ?_⟩
  have hj : j < rs.length := by
    have := (List.getElem?_eq_some_iff.1 hu).1
    rw [ucl_len] at this
    exact this
  obtain ⟨b', off', e', _, hx', _⟩ := u32s_cell h (k := j) hj
  rw [e] at e'
  injection e' with e'
  injection e' with e1 e2
  subst e1; subst e2
  rw [Go.WideShapes.add_plain, hx', ← hu, ucl_at rs j hj]
  simp [List.getD_eq_getElem?_getD, hj]
theorem wpList_copy_g {P : Program} {w : World} {ops : Array Oper} {rest : List Oper} {o : Oper} {a : Act} {Q : Exit → Act → World → Prop} (hgd : o.guard = none) (d s : Operand) (dT sT : TypeId)
    (ho : o.op = .call { callee := .builtin .copy, args := #[d, s], argTypes := #[dT, sT] }) (elem : TypeId) (hu : P.underlying dT = some (.slice elem)) (hsz : (P.info? elem).map (·.size) = some 1)
    (dp sp : Option Addr) (dLen dCap sLen sCap : Nat) (hd : a.eval d = .slice dp dLen dCap) (hs : a.eval s = .slice sp sLen sCap)
    (g : Nat) (cur : List Value) (t : TypeId) (hg : w.heap[g]? = some (.cells cur.toArray t (0, 0))) (cs : List Value) (hn : cs.length = Nat.min sLen dLen)
    (hpos : 0 < cs.length → dp = some ⟨g, 0, none⟩ ∧ ∃ ad, sp = some ad ∧ ∀ j v, cs[j]? = some v → w.cell? (ad.add j) = some v)
    (hfit : cs.length ≤ cur.length) (h1 : ∀ v ∈ cs, v.oneCell' = true)
    (h : ∀ w', Hid (w'.heap[g]? = some (.cells (cs ++ cur.drop cs.length).toArray t (0, 0))) → Hid (w.grownBy w' (some g)) → wpList P ops Q rest (a.put o.dst (goInt cs.length)) w') :
    wpList P ops Q (o :: rest) a w := by
  by_cases h0 : cs.length = 0
  · obtain rfl : cs = [] := List.eq_nil_of_length_eq_zero h0
    refine wpList_copy_nothing hgd d s dT sT ho elem hu hsz dp sp dLen dCap sLen sCap hd hs (by simpa using hn.symm) ?_
    exact h w (show _ = _ by simpa using hg) ⟨rfl, rfl, rfl, Nat.le_refl _, fun _ _ _ => rfl⟩
  · obtain ⟨rfl, ad, rfl, hsrc⟩ := hpos (by omega)
    refine wpList_copy_own hgd d s dT sT ho elem hu hsz g 0 dLen dCap ad sLen sCap hd hs cur.toArray t hg cs hn hsrc (by simpa using hfit) h1 ?_
    exact h _ (show _ = _ by simpa using setRow_heap w g _ _ t _ hg) ⟨rfl, rfl, rfl, by simp [World.setRow], fun k _ hne => setRow_other w g k _ (by simpa using hne)⟩
def OwnTo (n s : Nat) (rs : List Nat) (zs : List Int) (w : World) (e : Ending) (w' : World) : Prop := Below w.heap.size w w' ∧ ∃ gP gS, e = .returned (.agg #[.int .u32 s, .slice (some ⟨gP, 0, none⟩) n n, .slice (some ⟨gS, 0, none⟩) n n]) ∧ (w.heap.size ≤ gP ∧ w.heap.size ≤ gS) ∧
  w'.heap[gP]? = some (.cells (ucl rs).toArray 33 (0, 0)) ∧ w'.heap[gS]? = some (.cells (icells zs).toArray 3 (0, 0))
theorem rows3 (w : World) (o1 o2 o3 : Obj) : ((((w.alloc o1).alloc o2).alloc o3).drew).heap[w.heap.size]? = some o1 ∧ ((((w.alloc o1).alloc o2).alloc o3).drew).heap[w.heap.size + 1]? = some o2 ∧ ((((w.alloc o1).alloc o2).alloc o3).drew).heap[w.heap.size + 1 + 1]? = some o3 ∧ Below w.heap.size w (((w.alloc o1).alloc o2).alloc o3).drew := by
  have s1 : (w.alloc o1).heap.size = w.heap.size + 1 := by simp
  have s2 : ((w.alloc o1).alloc o2).heap.size = w.heap.size + 1 + 1 := by simp
  refine ⟨?_, ?_, ?_, below_drew ((((Below.refl _ _).alloc (Nat.le_refl _) _).alloc (by simp) _).alloc (by simp; omega) _)⟩
  · exact (heap_alloc_old _ o3 (by omega)).trans ((heap_alloc_old _ o2 (by omega)).trans (heap_alloc_new w o1))
  · have h := (heap_alloc_old _ o3 (by omega)).trans (heap_alloc_new (w.alloc o1) o2)
    rwa [s1] at h
  · have h := heap_alloc_new ((w.alloc o1).alloc o2) o3
    rwa [s2] at h
/-- two lists of zeros, and a place that has them -/
structure OwnW (w0 W : World) (n s gP gS gy : Nat) : Prop where
  rP : W.heap[gP]? = some (.cells (Array.replicate n (Value.int .u32 0)) 33 (0, 0))
  rS : W.heap[gS]? = some (.cells (Array.replicate n (Value.int .i64 0)) 3 (0, 0))
  rY : W.heap[gy]? = some (.cells #[.int .u32 s, .slice (some ⟨gP, 0, none⟩) n n, .slice (some ⟨gS, 0, none⟩) n n] 36 (0, 0))
  lo : w0.heap.size ≤ gP ∧ w0.heap.size ≤ gS ∧ w0.heap.size ≤ gy
  be : Below w0.heap.size w0 W
theorem rows_ne {W : World} {g g' : Nat} {cs cs' : Array Value} {t t' : TypeId} (h : W.heap[g]? = some (.cells cs t (0, 0))) (h' : W.heap[g']? = some (.cells cs' t' (0, 0))) (hne : t ≠ t') : g ≠ g' := fun e => by
  subst e
  rw [h] at h'
  simp only [Option.some.injEq, Obj.cells.injEq] at h'
  exact hne h'.2.1
theorem fzc_of {W : World} {t : Nat} {cs : Array Value} {ty : TypeId} (R : W.heap[t]? = some (.cells cs ty (0, 0))) (j : Nat) : W.frozen? ⟨t, j, none⟩ = false := by simp [World.frozen?, R]
set_option maxHeartbeats 4000000 in
theorem own_any (AN AK AP AT : Option Addr) (nN cN n cK nP cP nT cT : Nat) (s : Nat) (A7 A8 : Option Addr) (c7 c8 : Nat) (rs : List Nat) (zs : List Int) (w : World) (hn : n ≤ 24) (hU : U32sAt w (.slice A7 rs.length c7) rs) (hI : IntsAt w (.slice A8 zs.length c8) zs) (h1 : rs.length ≤ n) (h2 : zs.length ≤ n) :
    Calls Try.prog 34 #[chV AN AK AP AT nN cN n cK nP cP nT cT, .agg #[.int .u32 s, .slice A7 rs.length c7, .slice A8 zs.length c8]] w (OwnTo n s (padL n rs) (padI n zs) w) := by
  obtain ⟨r0, r1, r2, hb01⟩ := rows3 w (.cells #[.slice AN nN cN, .slice AK n cK, .slice AP nP cP, .slice AT nT cT] 28) (.cells #[.int .u32 s, .slice A7 rs.length c7, .slice A8 zs.length c8] 36) (.cells #[.int .u32 0, .slice none 0 0, .slice none 0 0] 36)
  have R0 : (((w.alloc (.cells #[.slice AN nN cN, .slice AK n cK, .slice AP nP cP, .slice AT nT cT] 28)).alloc (.cells #[.int .u32 s, .slice A7 rs.length c7, .slice A8 zs.length c8] 36)).alloc (.cells #[.int .u32 0, .slice none 0 0, .slice none 0 0] 36)).heap[w.heap.size]? = _ := r0
  have R1 : (((w.alloc (.cells #[.slice AN nN cN, .slice AK n cK, .slice AP nP cP, .slice AT nT cT] 28)).alloc (.cells #[.int .u32 s, .slice A7 rs.length c7, .slice A8 zs.length c8] 36)).alloc (.cells #[.int .u32 0, .slice none 0 0, .slice none 0 0] 36)).heap[w.heap.size + 1]? = _ := r1
  have R2 : (((w.alloc (.cells #[.slice AN nN cN, .slice AK n cK, .slice AP nP cP, .slice AT nT cT] 28)).alloc (.cells #[.int .u32 s, .slice A7 rs.length c7, .slice A8 zs.length c8] 36)).alloc (.cells #[.int .u32 0, .slice none 0 0, .slice none 0 0] 36)).heap[w.heap.size + 2]? = _ := r2
  have HB01 : Hid (Below w.heap.size w (((w.alloc (.cells #[.slice AN nN cN, .slice AK n cK, .slice AP nP cP, .slice AT nT cT] 28)).alloc (.cells #[.int .u32 s, .slice A7 rs.length c7, .slice A8 zs.length c8] 36)).alloc (.cells #[.int .u32 0, .slice none 0 0, .slice none 0 0] 36))) := ((((Below.refl _ _).alloc (Nat.le_refl _) _).alloc (by simp) _).alloc (by simp; omega) _)
  clear r0 r1 r2 hb01
  go_enter Try.func34, Try.ntmps34
  go_upto_region 1 with fail
  generalize ((w.alloc (.cells #[.slice AN nN cN, .slice AK n cK, .slice AP nP cP, .slice AT nT cT] 28)).alloc (.cells #[.int .u32 s, .slice A7 rs.length c7, .slice A8 zs.length c8] 36)).alloc (.cells #[.int .u32 0, .slice none 0 0, .slice none 0 0] 36) = w0 at *
  have HU := Lib.hid (hU.below HB01.out)
  have HI := Lib.hid (hI.below HB01.out)
  have hlt2 : w.heap.size + 2 < w0.heap.size := (Array.getElem?_eq_some_iff.1 R2).1
  have hlt0 : w.heap.size < w0.heap.size := by omega
  have hlt1 : w.heap.size + 1 < w0.heap.size := by omega
  clear hU hI
  have hmU : ∀ W, (Instr.makeSlice 34 (.int .i64 n) (.int .i64 n)).run Try.prog W = .ok (.slice (some ⟨W.heap.size, 0, none⟩) n n) (W.alloc (.cells (Array.replicate n (Value.int .u32 0)) 33)) := mk_u32 n (by omega)
  have hmI : ∀ W, (Instr.makeSlice 22 (.int .i64 n) (.int .i64 n)).run Try.prog W = .ok (.slice (some ⟨W.heap.size, 0, none⟩) n n) (W.alloc (.cells (Array.replicate n (Value.int .i64 0)) 3)) := mk_int n (by omega)
  have q1 := cell_of_row _ _ 1 _ _ _ R0
  have p0 := cell_of_row _ _ 0 _ _ _ R1
  go_cut [5] (fun p wx => ∃ gP gS gy, p = .pointer (some ⟨gy, 0, none⟩) ∧ OwnW w0 wx n s gP gS gy)
  case first =>
    go_region
    all_goals
      go_wp2_with fail
      go_meet
      first
        | exact ⟨_, _, _, rfl, (rows3 _ _ _ _).1, (rows3 _ _ _ _).2.1, (rows3 _ _ _ _).2.2.1, ⟨by omega, by omega, by omega⟩, (rows3 _ _ _ _).2.2.2⟩
        | exact ⟨_, _, _, rfl, (rows3 _ _ _ _).1, (rows3 _ _ _ _).2.2.1, (rows3 _ _ _ _).2.1, ⟨by omega, by omega, by omega⟩, (rows3 _ _ _ _).2.2.2⟩
        | exact ⟨_, _, _, rfl, (rows3 _ _ _ _).2.1, (rows3 _ _ _ _).1, (rows3 _ _ _ _).2.2.1, ⟨by omega, by omega, by omega⟩, (rows3 _ _ _ _).2.2.2⟩
        | exact ⟨_, _, _, rfl, (rows3 _ _ _ _).2.2.1, (rows3 _ _ _ _).1, (rows3 _ _ _ _).2.1, ⟨by omega, by omega, by omega⟩, (rows3 _ _ _ _).2.2.2⟩
        | exact ⟨_, _, _, rfl, (rows3 _ _ _ _).2.1, (rows3 _ _ _ _).2.2.1, (rows3 _ _ _ _).1, ⟨by omega, by omega, by omega⟩, (rows3 _ _ _ _).2.2.2⟩
        | exact ⟨_, _, _, rfl, (rows3 _ _ _ _).2.2.1, (rows3 _ _ _ _).2.1, (rows3 _ _ _ _).1, ⟨by omega, by omega, by omega⟩, (rows3 _ _ _ _).2.2.2⟩
  case rest =>
    obtain ⟨gP, gS, gy, rfl, HW⟩ := hcut
    have hPS := rows_ne HW.rP HW.rS (by decide)
    have hPY := rows_ne HW.rP HW.rY (by decide)
    have hSY := rows_ne HW.rS HW.rY (by decide)
    have hlo := HW.lo
    have R1c := (HW.be.block _ hlt1).trans R1
    have R2c := (HW.be.block _ hlt2).trans R2
    have hbe := HW.be.size
    have HUc := HU.out.below HW.be
    have HIc := HI.out.below HW.be
    have HBc := Lib.hid (below_then HB01.out HW.be HB01.out.size)
    have y1 := cell_of_row _ _ 1 _ _ _ HW.rY
    have y2 := cell_of_row _ _ 2 _ _ _ HW.rY
    have x1 := cell_of_row _ _ 1 _ _ _ R1c
    have x2 := cell_of_row _ _ 2 _ _ _ R1c
    have hsz1 : (Try.prog.info? 33).map (·.size) = some 1 := by kernel_rfl
    have hsz2 : (Try.prog.info? 3).map (·.size) = some 1 := by kernel_rfl
    have rP : wc.heap[gP]? = some (.cells (List.replicate n (Value.int .u32 0)).toArray 33 (0, 0)) := by rw [List.toArray_replicate]; exact HW.rP
    have rS : wc.heap[gS]? = some (.cells (List.replicate n (Value.int .i64 0)).toArray 3 (0, 0)) := by rw [List.toArray_replicate]; exact HW.rS
    have rY := HW.rY
    have hmn1 : (ucl rs).length = Nat.min rs.length n := by rw [ucl_len]; exact (Nat.min_eq_left h1).symm
    have hmn2 : (icells zs).length = Nat.min zs.length n := by rw [show (icells zs).length = zs.length by simp [icells]]; exact (Nat.min_eq_left h2).symm
    have HS1 := Lib.hid (u32s_src HUc)
    have HS2 := Lib.hid (fun X (hX : IntsAt X (.slice A8 zs.length c8) zs) => ints_src hX)
    have hgPl := (Array.getElem?_eq_some_iff.1 rP).1
    have hgSl := (Array.getElem?_eq_some_iff.1 rS).1
    have hgYl := (Array.getElem?_eq_some_iff.1 rY).1
    have HI3 : Hid (∀ X, wc.grownBy X (some gP) → IntsAt X (.slice A8 zs.length c8) zs) := fun X hX => by
      have hB : Below w0.heap.size w0 X := HW.be.grown hX HW.be.size (fun g e => by cases e; omega)
      exact HI.out.below hB
    clear HW R0 R1 R2 q1 p0 HU HI hmU hmI HUc HIc
    go_upto_region 3 with ((with_reducible show wpList _ _ _ _ _ _); refine wpList_copy_g (o := ⟨some 23, _, _, _, _, _⟩) rfl _ _ _ _ rfl 33 Try.underlying34 hsz1 _ _ _ _ _ _ rfl rfl gP (List.replicate n (Value.int .u32 0)) 33 rP (ucl rs) hmn1 (fun hp => ⟨rfl, HS1.out hp⟩) (by rw [ucl_len, List.length_replicate]; omega) (ucl_one rs) ?_; intro w3 HG3 hg3)
    have z1 := (hg3.out.block gS hgSl (by simpa using fun e => hPS e.symm)).trans rS
    have z2 := (hg3.out.block gy hgYl (by simpa using fun e => hPY e.symm)).trans rY
    have z3 := (hg3.out.block (w.heap.size + 1) (by omega) (by simp; omega)).trans R1c
    have z4 := (hg3.out.block (w.heap.size + 2) (by omega) (by simp; omega)).trans R2c
    have hI3 := HI3.out _ hg3.out
    have hs3 := hg3.out.size
    have HB3 := Lib.hid (HBc.out.grown hg3.out HBc.out.size (fun g e => by cases e; omega))
    have HS3 := Lib.hid (HS2.out _ hI3)
    clear y1 y2 x1 x2 rS rY R1c R2c HI3 HS1 HS2 hI3
    have y1 := cell_of_row _ _ 1 _ _ _ z2
    have y2 := cell_of_row _ _ 2 _ _ _ z2
    have x1 := cell_of_row _ _ 1 _ _ _ z3
    have x2 := cell_of_row _ _ 2 _ _ _ z3
    go_upto_region 4 with ((with_reducible show wpList _ _ _ _ _ _); refine wpList_copy_g (o := ⟨some 28, _, _, _, _, _⟩) rfl _ _ _ _ rfl 3 Try.underlying22 hsz2 _ _ _ _ _ _ rfl rfl gS (List.replicate n (Value.int .i64 0)) 3 z1 (icells zs) hmn2 (fun hp => ⟨rfl, HS3.out hp⟩) (by rw [show (icells zs).length = zs.length by simp [icells], List.length_replicate]; omega) (icells_one zs) ?_; intro w5 HG5 hg5)
    have v2 := (hg5.out.block gy (by omega) (by simpa using fun e => hSY e.symm)).trans z2
    have v4 := (hg5.out.block (w.heap.size + 2) (by omega) (by simp; omega)).trans z4
    have v5 := (hg5.out.block gP (by omega) (by simpa using hPS)).trans HG3.out
    have HB5 := Lib.hid (HB3.out.grown hg5.out HB3.out.size (fun g e => by cases e; omega))
    have HG5' := Lib.hid HG5.out
    have HG3' := Lib.hid v5
    have hs5 := hg5.out.size
    clear y1 y2 x1 x2 z1 z2 z3 z4 hg5 hg3 HS3 v5
    have y0 := cell_of_row _ _ 0 _ _ _ v2
    have y1 := cell_of_row _ _ 1 _ _ _ v2
    have y2 := cell_of_row _ _ 2 _ _ _ v2
    have d0 := cell_of_row _ _ 0 _ _ _ v4
    have d1 := cell_of_row _ _ 1 _ _ _ v4
    have d2 := cell_of_row _ _ 2 _ _ _ v4
    have f0 := fzc_of v4 0
    have f1 := fzc_of v4 1
    have f2 := fzc_of v4 2
    go_wp2
    have e := heap_set (j := 2) (heap_set (j := 1) (heap_set (j := 0) v4 (.int .u32 s)) (.slice (some ⟨gP, 0, none⟩) n n)) (.slice (some ⟨gS, 0, none⟩) n n)
    have ho : ∀ g, g < w5.heap.size → g ≠ w.heap.size + 2 → (((w5.setCell ⟨w.heap.size + 2, 0, none⟩ (.int .u32 s)).setCell ⟨w.heap.size + 2, 1, none⟩ (.slice (some ⟨gP, 0, none⟩) n n)).setCell ⟨w.heap.size + 2, 2, none⟩ (.slice (some ⟨gS, 0, none⟩) n n)).heap[g]? = w5.heap[g]? := fun g hg hne => by
      rw [(grown_setCell _ _ _ _).block g (by simpa [World.setCell] using hg) (by simpa using hne), (grown_setCell _ _ _ _).block g (by simpa [World.setCell] using hg) (by simpa using hne), (grown_setCell _ _ _ _).block g hg (by simpa using hne)]
    (try simp only [Exit.inBlock, Exit.then])
    refine bodyPost_ret (results_cell_row rfl _ _ (w.heap.size + 2) _ _ _ _ rfl (by simpa using e) Try.underlying36 rfl (by kernel_rfl)) rfl ?_
    refine ⟨?_, gP, gS, rfl, ⟨by omega, by omega⟩, ?_, ?_⟩
    · exact set_below (set_below (set_below HB5.out HB5.out.size (by omega)) (by simpa [World.setCell] using HB5.out.size) (by omega)) (by simpa [World.setCell] using HB5.out.size) (by omega)
    · rw [ho gP (by omega) (by omega), HG3'.out]
      unfold padL ucl
      simp
    · rw [ho gS (by omega) (by omega), HG5'.out]
      unfold padI icells
      simp
end Go.Proofs.Ytbacdllokgcohaa

/- Layer 14: a date, read of any words. -/
import Derived.Test.YtagmdglmflcegaaGreatDoorA14
import Derived.Test.YtagmdglmflcegaaGreatDoorSha
namespace Go.Proofs.YtagmdglmflcegaaGreatDoor
open Go.ChangeShapes Go.WideShapes Go.ChangeAt Go.RowKit
set_option linter.unusedVariables false
set_option maxRecDepth 100000
namespace D14
theorem ba_ext {a b : ByteArray} (h : a.data.toList = b.data.toList) : a = b := by
  cases a; cases b
  simp only [ByteArray.mk.injEq]
  exact Array.toList_inj.1 h
theorem str_ne {a b : ByteArray} (h : ¬ a = b) : (a.toList == b.toList) = false := by
  have : ¬ a.toList = b.toList := fun e => h (ba_ext (by rw [← Lib.toList_data, ← Lib.toList_data]; exact e))
  simpa using this
def Parts (s fs mt ls : ByteArray) : Prop := s.data.toList = fs.data.toList ++ 32 :: (mt.data.toList ++ 32 :: ls.data.toList) ∧ (∀ x ∈ fs.data.toList, ¬ x = 32) ∧ (∀ x ∈ ls.data.toList, ¬ x = 32)
theorem parts_one {s fs mt ls fs' mt' ls' : ByteArray} (h : Parts s fs mt ls) (h' : Parts s fs' mt' ls') : fs = fs' ∧ mt = mt' ∧ ls = ls' := by
  obtain ⟨e, a, b⟩ := h
  obtain ⟨e', a', b'⟩ := h'
  obtain ⟨p, q⟩ := first_one a a' (e.symm.trans e')
  obtain ⟨p', q'⟩ := last_one b b' q
  exact ⟨ba_ext p, ba_ext p', ba_ext q'⟩
/-- What name.Read answers. -/
def ReadIs (s : ByteArray) (ry rn : Int) (rl : Bool) (rd er : Int) : Prop :=
  (er = 5 ∧ ry = 0 ∧ rn = 0 ∧ rl = false ∧ rd = 0 ∧ ¬ ∃ fs mt ls n l, Parts s fs mt ls ∧ nOk fs 2 = true ∧ nOk ls 4 = true ∧ isRow mt n l) ∨
  (∃ fs mt ls n l, Parts s fs mt ls ∧ nOk fs 2 = true ∧ nOk ls 4 = true ∧ isRow mt n l ∧
    ((er = 2 ∧ ry = 0 ∧ rn = 0 ∧ rl = false ∧ rd = 0 ∧ ¬ (D10.dateE (nVal ls 4) n l (nVal fs 2) = 0 ∧ (nameV (nVal ls 4) n l = mt ∨ mt = (⟨#[65, 100, 97, 114]⟩ : ByteArray)))) ∨
     (er = 0 ∧ ry = nVal ls 4 ∧ rn = n ∧ rl = l ∧ rd = nVal fs 2 ∧ D10.dateE (nVal ls 4) n l (nVal fs 2) = 0 ∧ (nameV (nVal ls 4) n l = mt ∨ mt = (⟨#[65, 100, 97, 114]⟩ : ByteArray)))))
theorem ReadIs.parts {s fs mt ls : ByteArray} {n ry rn rd er : Int} {l rl : Bool} (h : ReadIs s ry rn rl rd er) (hp : Parts s fs mt ls) (h1 : nOk fs 2 = true) (h2 : nOk ls 4 = true) (h3 : isRow mt n l) :
    (er = 2 ∧ ry = 0 ∧ rn = 0 ∧ rl = false ∧ rd = 0 ∧ ¬ (D10.dateE (nVal ls 4) n l (nVal fs 2) = 0 ∧ (nameV (nVal ls 4) n l = mt ∨ mt = (⟨#[65, 100, 97, 114]⟩ : ByteArray)))) ∨
     (er = 0 ∧ ry = nVal ls 4 ∧ rn = n ∧ rl = l ∧ rd = nVal fs 2 ∧ D10.dateE (nVal ls 4) n l (nVal fs 2) = 0 ∧ (nameV (nVal ls 4) n l = mt ∨ mt = (⟨#[65, 100, 97, 114]⟩ : ByteArray))) := by
  rcases h with ⟨_, _, _, _, _, hn⟩ | ⟨fs', mt', ls', n', l', hp', _, _, h3', h⟩
  · exact absurd ⟨fs, mt, ls, n, l, hp, h1, h2, h3⟩ hn
  · obtain ⟨rfl, rfl, rfl⟩ := parts_one hp hp'
    obtain ⟨rfl, rfl⟩ := row_one h3 h3'
    exact h
theorem words_parts {y n d : Int} {l : Bool} (h : D10.dateE y n l d = 0) : Parts (wordsV y n l d) (num d) (nameV y n l) (num y) ∧ nOk (num d) 2 = true ∧ nOk (num y) 4 = true ∧ isRow (nameV y n l) n l ∧ nVal (num d) 2 = d ∧ nVal (num y) 4 = y := by
  obtain ⟨⟨y1, y2, m1, m2, d1, d2⟩, hp⟩ := D10.date_valid h
  have hlb := (D10.len_bd y _ y1 y2 m1 m2).2
  have hr : Cal.right n l = true := by simp [Cal.plOk] at hp; exact hp.1
  obtain ⟨a1, a2, a3⟩ := num_ok (v := d) (k := 1) d1 (show d < 10 ^ (1 + 1) by omega)
  obtain ⟨b1, b2, b3⟩ := num_ok (v := y) (k := 3) y1 (show y < 10 ^ (3 + 1) by omega)
  refine ⟨⟨?_, a3, b3⟩, a1, b1, nameV_row y n l hr, a2, b2⟩
  unfold wordsV num
  simp
theorem read_words {y n d ry rn rd er : Int} {l rl : Bool} (h : D10.dateE y n l d = 0) (hI : ReadIs (wordsV y n l d) ry rn rl rd er) : er = 0 ∧ ry = y ∧ rn = n ∧ rl = l ∧ rd = d := by
  obtain ⟨p, a, b, c, va, vb⟩ := words_parts h
  rcases hI.parts p a b c with ⟨_, _, _, _, _, hn⟩ | ⟨h0, h1, h2, h3, h4, _⟩
  · rw [va, vb] at hn
    exact absurd ⟨h, .inl rfl⟩ hn
  · rw [va] at h4
    rw [vb] at h1
    exact ⟨h0, h1, h2, h3, h4⟩
/-- What is read has these words, but for Adar in a leap year. -/
theorem read_back {s : ByteArray} {ry rn rd : Int} {rl : Bool} (hI : ReadIs s ry rn rl rd 0) : D10.dateE ry rn rl rd = 0 ∧ (wordsV ry rn rl rd = s ∨ (rn = 6 ∧ Cal.leap ry = true ∧ (wordsV ry rn rl rd).size = s.size + 3)) := by
  rcases hI with ⟨h, _⟩ | ⟨fs, mt, ls, n, l, ⟨e, p1, p2⟩, h1, h2, h3, h⟩
  · omega
  rcases h with ⟨h, _⟩ | ⟨_, rfl, rfl, rfl, rfl, hd, hm⟩
  · omega
  obtain ⟨_, f1, _⟩ := num_back (s := fs) (k := 1) h1
  obtain ⟨_, f2, _⟩ := num_back (s := ls) (k := 3) h2
  have f1' : num (nVal fs 2) = fs := f1
  have f2' : num (nVal ls 4) = ls := f2
  have hw : (wordsV (nVal ls 4) rn rl (nVal fs 2)).data.toList = fs.data.toList ++ 32 :: ((nameV (nVal ls 4) rn rl).data.toList ++ 32 :: ls.data.toList) := by
    rw [(words_parts hd).1.1, f1', f2']
  refine ⟨hd, ?_⟩
  rcases hm with hm | hm
  · left
    apply ba_ext
    rw [hw, e, hm]
  · subst hm
    obtain ⟨rfl, rfl⟩ : rn = 6 ∧ rl = false := row_one h3 (show isRow (⟨#[65, 100, 97, 114]⟩ : ByteArray) 6 false by simp [isRow, rows])
    cases c : Cal.leap (nVal ls 4)
    · left
      apply ba_ext
      rw [hw, e]
      rw [show nameV (nVal ls 4) 6 false = (⟨#[65, 100, 97, 114]⟩ : ByteArray) by unfold nameV; rw [c]; rfl]
    · right
      refine ⟨rfl, rfl, ?_⟩
      have hv : nameV (nVal ls 4) 6 false = (⟨#[65, 100, 97, 114, 32, 73, 73]⟩ : ByteArray) := by unfold nameV; rw [c]; rfl
      have l1 := congrArg List.length hw
      have l2 := congrArg List.length e
      rw [hv] at l1
      have q1 : (wordsV (nVal ls 4) 6 false (nVal fs 2)).data.toList.length = (wordsV (nVal ls 4) 6 false (nVal fs 2)).size := by simp
      have q2 : s.data.toList.length = s.size := by simp
      rw [q1] at l1
      rw [q2] at l2
      rw [l1, l2]
      simp
      omega
theorem ext_take (r : List UInt8) (i j : Nat) : ((⟨r.toArray⟩ : ByteArray).extract i j).data.toList = (r.take j).drop i := by
  simp [List.drop_take]
end D14
theorem name_Read (s : ByteArray) (hs : s.size ≤ 100000) (m : Int) : ∃ (ry rn : Int) (rl : Bool) (rd er : Int), D14.ReadIs s ry rn rl rd er ∧ ∀ w : World, Tab w 2 kevCells → Tab w 3 lenCells → Tab w 0 nameCells → MaxAt w m → Calls Tryz.prog 13 #[.string s] w fun e w' => e = .returned (.tuple #[.agg #[.int .i64 (ry), .int .i64 (rn), .bool (rl), .int .i64 (rd)], .int .i64 (er)]) ∧ Below w.heap.size w w' := by
  have HU0 := Lib.hid (fun (w : World) (hm : MaxAt w m) => cut_at s ⟨#[32]⟩ m w (by omega) hm)
  have HK := Lib.hid (fun w hN => name_codes w hN)
  rcases D14.split_first s.data.toList with ⟨a, r, e, ha⟩ | h
  · have hlen : s.size = a.length + 1 + r.length := by
      have : s.data.toList.length = s.size := by simp
      rw [← this, e]; simp; omega
    rw [show Go.Lib.cut s.data.toList (⟨#[32]⟩ : ByteArray).data.toList = (a, r, true) by rw [e]; exact D14.cut_some a r ha] at HU0
    have HU : Hid (∀ w : World, MaxAt w m → Calls Tryz.prog 38 #[.string s, .string ⟨#[32]⟩] w fun e w' => e = .returned (.tuple #[.string ⟨a.toArray⟩, .string ⟨r.toArray⟩, .bool true]) ∧ Below w.heap.size w w') := HU0
    clear HU0
    have hrs : (⟨r.toArray⟩ : ByteArray).size = r.length := by show r.toArray.size = _; simp
    have HX0 := Lib.hid (fun w : World => last_at ⟨r.toArray⟩ w (by omega))
    rcases D14.split_last r with ⟨b, c, er, hc⟩ | h2
    · have hlr : r.length = b.length + 1 + c.length := by rw [er]; simp; omega
      rw [show Go.Lib.lastIndexByte ⟨r.toArray⟩ 32 = (b.length : Int) by rw [er]; exact D14.last_some b c hc] at HX0
      have hmt : ((⟨r.toArray⟩ : ByteArray).extract 0 b.length).data.toList = b := by rw [D14.ext_take, er]; simp
      have hls : ((⟨r.toArray⟩ : ByteArray).extract (b.length + 1) (⟨r.toArray⟩ : ByteArray).size).data.toList = c := by rw [D14.ext_take, hrs, List.take_length, er]; simp
      have hP : D14.Parts s ⟨a.toArray⟩ ((⟨r.toArray⟩ : ByteArray).extract 0 b.length) ((⟨r.toArray⟩ : ByteArray).extract (b.length + 1) (⟨r.toArray⟩ : ByteArray).size) := by
        refine ⟨?_, ha, by rw [hls]; exact hc⟩
        rw [hmt, hls, e, er]
      have k1 : ((b.length : Nat) : Int) < ((⟨r.toArray⟩ : ByteArray).size : Int) := by omega
      have k2 : ((b.length : Nat) : Int) + 1 ≤ ((⟨r.toArray⟩ : ByteArray).size : Int) := by omega
      have k0 : (0 : Int) ≤ (b.length : Int) := by omega
      have hz : (⟨r.toArray⟩ : ByteArray).size ≤ 1000000 := by omega
      have za : (⟨a.toArray⟩ : ByteArray).size ≤ 9223372036854775807 := by show a.toArray.size ≤ _; simp; omega
      generalize (⟨a.toArray⟩ : ByteArray) = fs at *
      generalize hrr : (⟨r.toArray⟩ : ByteArray) = rs at *
      generalize b.length = k at *
      have zl : (rs.extract (k + 1) rs.size).size ≤ 9223372036854775807 := by simp; omega
      obtain ⟨n, l, ok, hrow, HL0⟩ := D14.look (rs.extract 0 k)
      have HD := Lib.hid (fun w => name_number fs 2 w (by omega) za)
      have HY := Lib.hid (fun w => name_number (rs.extract (k + 1) rs.size) 4 w (by omega) zl)
      have HL2 := Lib.hid HL0
      clear hmt hls hlr hlen e er HL0
      cases o1 : nOk fs 2
      · rw [o1] at HD
        refine ⟨0, 0, false, 0, 5, .inl ⟨rfl, rfl, rfl, rfl, rfl, ?_⟩, fun w hT hL hN hm => name_Read_s1 s fs rs true k _ _ n l ok _ m w hT hL hN hm HU HX0 k0 k1 k2 hz HD HK HL2 HY⟩
        rintro ⟨fs', mt', ls', n', l', hp', g1, g2, g3⟩
        obtain ⟨rfl, rfl, rfl⟩ := D14.parts_one hP hp'
        rw [o1] at g1; cases g1
      rw [o1] at HD
      cases ok
      · refine ⟨0, 0, false, 0, 5, .inl ⟨rfl, rfl, rfl, rfl, rfl, ?_⟩, fun w hT hL hN hm => name_Read_s2 s fs rs true k _ _ n l _ m w hT hL hN hm HU HX0 k0 k1 k2 hz HD HK HL2 HY⟩
        rintro ⟨fs', mt', ls', n', l', hp', g1, g2, g3⟩
        obtain ⟨rfl, rfl, rfl⟩ := D14.parts_one hP hp'
        rcases hrow with ⟨g, _⟩ | ⟨_, _, _, g⟩
        · cases g
        · exact g _ _ g3
      cases o3 : nOk (rs.extract (k + 1) rs.size) 4
      · rw [o3] at HY
        refine ⟨0, 0, false, 0, 5, .inl ⟨rfl, rfl, rfl, rfl, rfl, ?_⟩, fun w hT hL hN hm => name_Read_s3 s fs rs true k _ _ n l m w hT hL hN hm HU HX0 k0 k1 k2 hz HD HK HL2 HY⟩
        rintro ⟨fs', mt', ls', n', l', hp', g1, g2, g3⟩
        obtain ⟨rfl, rfl, rfl⟩ := D14.parts_one hP hp'
        rw [o3] at g2; cases g2
      rw [o3] at HY
      have hrow1 : D14.isRow (rs.extract 0 k) n l := by
        rcases hrow with ⟨_, g⟩ | ⟨g, _⟩
        · exact g
        · cases g
      have hYb : I64 (nVal (rs.extract (k + 1) rs.size) 4) := by
        have h9 := o3
        unfold nOk at h9
        simp only [Bool.and_eq_true, decide_eq_true_eq] at h9
        have hbd := numFold_bd _ h9.2.2.2
        have hv : nVal (rs.extract (k + 1) rs.size) 4 = numFold (rs.extract (k + 1) rs.size).data.toList := by unfold nVal; rw [if_pos o3]
        have hl4 : (rs.extract (k + 1) rs.size).data.toList.length ≤ 4 := by
          have : (rs.extract (k + 1) rs.size).data.toList.length = (rs.extract (k + 1) rs.size).size := by simp
          omega
        have hpw : (10 : Int) ^ (rs.extract (k + 1) rs.size).data.toList.length ≤ 10000 := by
          generalize (rs.extract (k + 1) rs.size).data.toList.length = q at hl4
          rcases (show q = 0 ∨ q = 1 ∨ q = 2 ∨ q = 3 ∨ q = 4 by omega) with h | h | h | h | h <;> rw [h] <;> decide
        rw [hv]
        exact ⟨by omega, by omega⟩
      have HC := Lib.hid (fun w hT hL => heb_Check (nVal (rs.extract (k + 1) rs.size) 4) n l (nVal fs 2) w hYb hT hL)
      by_cases h0 : D10.dateE (nVal (rs.extract (k + 1) rs.size) 4) n l (nVal fs 2) = 0
      · rw [h0] at HC
        obtain ⟨⟨y1, y2, _⟩, hp⟩ := D10.date_valid h0
        have HM := Lib.hid (fun w hT hL hN => name_Month (nVal (rs.extract (k + 1) rs.size) 4) n l w hYb hT hL hN)
        rw [show D10.lastE (nVal (rs.extract (k + 1) rs.size) 4) n l = 0 by simp [D10.lastE, Cal.yearIn_yes _ y1 y2, hp], if_pos rfl] at HM
        by_cases h1 : nameV (nVal (rs.extract (k + 1) rs.size) 4) n l = rs.extract 0 k
        · have HM1 := HM
          rw [h1] at HM1
          exact ⟨_, n, l, _, 0, .inr ⟨fs, _, _, n, l, hP, o1, o3, hrow1, .inr ⟨rfl, rfl, rfl, rfl, rfl, h0, .inl h1⟩⟩, fun w hT hL hN hm => name_Read_e1 s fs rs true k _ _ n l _ m w hT hL hN hm HU HX0 k0 k1 k2 hz HD HK HL2 HY HC HM1⟩
        · by_cases h2 : rs.extract 0 k = (⟨#[65, 100, 97, 114]⟩ : ByteArray)
          · refine ⟨_, n, l, _, 0, .inr ⟨fs, _, _, n, l, hP, o1, o3, hrow1, .inr ⟨rfl, rfl, rfl, rfl, rfl, h0, .inr h2⟩⟩, fun w hT hL hN hm => name_Read_e2 s fs rs true k _ _ n l _ _ m w hT hL hN hm HU HX0 k0 k1 k2 hz HD HK HL2 HY HC HM (D14.str_ne h1) ?_ ?_⟩
            · rw [h2]; simp
            · rw [h2, Lib.toList_data]; rfl
          · refine ⟨0, 0, false, 0, 2, .inr ⟨fs, _, _, n, l, hP, o1, o3, hrow1, .inl ⟨rfl, rfl, rfl, rfl, rfl, fun h => ?_⟩⟩, fun w hT hL hN hm => name_Read_d s fs rs true k _ _ n l _ _ m w hT hL hN hm HU HX0 k0 k1 k2 hz HD HK HL2 HY HC HM (D14.str_ne h1) (D14.str_ne h2) ?_⟩
            · rcases h.2 with g | g
              · exact h1 g
              · exact h2 g
            · have := D14.str_ne h2
              rwa [Lib.toList_data (⟨#[65, 100, 97, 114]⟩ : ByteArray)] at this
      · exact ⟨0, 0, false, 0, 2, .inr ⟨fs, _, _, n, l, hP, o1, o3, hrow1, .inl ⟨rfl, rfl, rfl, rfl, rfl, fun h => h0 h.1⟩⟩, fun w hT hL hN hm => name_Read_c s fs rs true k _ _ n l _ m w hT hL hN hm HU HX0 k0 k1 k2 hz HD HK HL2 HY HC (by simpa using h0)⟩
    · rw [show Go.Lib.lastIndexByte ⟨r.toArray⟩ 32 = -1 from D14.last_none r h2] at HX0
      refine ⟨0, 0, false, 0, 5, .inl ⟨rfl, rfl, rfl, rfl, rfl, ?_⟩, fun w hT hL hN hm => name_Read_x s _ _ true m w hT hL hN hm HU HX0⟩
      rintro ⟨fs', mt', ls', n', l', ⟨e', p1, p2⟩, _⟩
      obtain ⟨_, q⟩ := D14.first_one ha p1 (e.symm.trans e')
      exact h2 32 (by rw [q]; simp) rfl
  · rw [show Go.Lib.cut s.data.toList (⟨#[32]⟩ : ByteArray).data.toList = (s.data.toList, [], false) from D14.cut_none _ h] at HU0
    have HX0 := Lib.hid (fun w : World => last_at ⟨([] : List UInt8).toArray⟩ w (by show ([] : List UInt8).toArray.size ≤ _; simp))
    rw [show Go.Lib.lastIndexByte ⟨([] : List UInt8).toArray⟩ 32 = -1 from D14.last_none [] (by simp)] at HX0
    refine ⟨0, 0, false, 0, 5, .inl ⟨rfl, rfl, rfl, rfl, rfl, ?_⟩, fun w hT hL hN hm => name_Read_x s _ _ false m w hT hL hN hm HU0 HX0⟩
    rintro ⟨fs', mt', ls', n', l', ⟨e', p1, p2⟩, _⟩
    exact h 32 (by rw [e']; simp) rfl
end Go.Proofs.YtagmdglmflcegaaGreatDoor

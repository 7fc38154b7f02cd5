import Derived.Test.YtgalgjmhdbncbabGreatZb05
namespace Go.Proofs.YtgalgjmhdbncbabGreat

def gx (v : BitVec 128) : BitVec 128 := (v <<< 1) ^^^ (if v.getLsbD 127 = true then 135#128 else 0#128)
def gxN (b : BitVec 128) : Nat → BitVec 128
  | 0 => b
  | k + 1 => gx (gxN b k)
def gmN (a b : BitVec 128) : Nat → BitVec 128
  | 0 => 0#128
  | k + 1 => gmN a b k ^^^ (if a.getLsbD k = true then gxN b k else 0#128)
def gm (a b : BitVec 128) : BitVec 128 := gmN a b 128

theorem v_ac (a b c d : BitVec 128) : (a ^^^ b) ^^^ (c ^^^ d) = (a ^^^ c) ^^^ (b ^^^ d) := by
  rw [BitVec.xor_assoc, BitVec.xor_assoc, ← BitVec.xor_assoc b c d, BitVec.xor_comm b c, BitVec.xor_assoc]
theorem if_lin (x y : Bool) (s : BitVec 128) : (if (x ^^ y) = true then s else 0#128) = (if x = true then s else 0#128) ^^^ (if y = true then s else 0#128) := by
  cases x <;> cases y <;> simp
theorem if_lin' (x : Bool) (s t : BitVec 128) : (if x = true then s ^^^ t else 0#128) = (if x = true then s else 0#128) ^^^ (if x = true then t else 0#128) := by
  cases x <;> simp
theorem gx_xor (a b : BitVec 128) : gx (a ^^^ b) = gx a ^^^ gx b := by
  unfold gx
  rw [BitVec.getLsbD_xor, if_lin, BitVec.shiftLeft_xor_distrib, v_ac]
theorem gx_zero : gx 0#128 = 0#128 := by decide
theorem gxN_xor (a b : BitVec 128) : ∀ k, gxN (a ^^^ b) k = gxN a k ^^^ gxN b k
  | 0 => rfl
  | k + 1 => by simp only [gxN]; rw [gxN_xor a b k, gx_xor]
theorem gxN_zero : ∀ k, gxN 0#128 k = 0#128
  | 0 => rfl
  | k + 1 => by simp only [gxN]; rw [gxN_zero k, gx_zero]
theorem gxN_gx (b : BitVec 128) : ∀ k, gxN (gx b) k = gx (gxN b k)
  | 0 => rfl
  | k + 1 => by simp only [gxN]; rw [gxN_gx b k]
theorem gxN_comm (b : BitVec 128) (j : Nat) : ∀ k, gxN (gxN b j) k = gxN (gxN b k) j
  | 0 => rfl
  | k + 1 => by
    simp only [gxN]
    rw [gxN_comm b j k, gxN_gx]
theorem gmN_left (a a' b : BitVec 128) : ∀ k, gmN (a ^^^ a') b k = gmN a b k ^^^ gmN a' b k
  | 0 => by simp [gmN]
  | k + 1 => by simp only [gmN]; rw [gmN_left a a' b k, BitVec.getLsbD_xor, if_lin, v_ac]
theorem gmN_right (a b b' : BitVec 128) : ∀ k, gmN a (b ^^^ b') k = gmN a b k ^^^ gmN a b' k
  | 0 => by simp [gmN]
  | k + 1 => by simp only [gmN]; rw [gmN_right a b b' k, gxN_xor, if_lin', v_ac]
theorem gm_left (a a' b : BitVec 128) : gm (a ^^^ a') b = gm a b ^^^ gm a' b := gmN_left a a' b 128
theorem gm_right (a b b' : BitVec 128) : gm a (b ^^^ b') = gm a b ^^^ gm a b' := gmN_right a b b' 128
theorem gmN_gx (a b : BitVec 128) : ∀ k, gmN a (gx b) k = gx (gmN a b k)
  | 0 => by simp only [gmN]; rw [gx_zero]
  | k + 1 => by
    simp only [gmN]
    rw [gmN_gx a b k, gxN_gx, gx_xor]
    cases a.getLsbD k <;> simp [gx_zero]
theorem gm_gx_right (a b : BitVec 128) : gm a (gx b) = gx (gm a b) := gmN_gx a b 128

def gsum (f : Nat → BitVec 128) (a : BitVec 128) : Nat → BitVec 128
  | 0 => 0#128
  | k + 1 => gsum f a k ^^^ (if a.getLsbD k = true then f k else 0#128)
theorem gsum_pow_bit (a : BitVec 128) : ∀ k, k ≤ 128 → ∀ i, (gsum (fun j => BitVec.twoPow 128 j) a k).getLsbD i = (decide (i < k) && a.getLsbD i)
  | 0, _, i => by simp [gsum]
  | k + 1, hk, i => by
    simp only [gsum]
    rw [BitVec.getLsbD_xor, gsum_pow_bit a k (by omega) i]
    by_cases h : i = k
    · subst h
      cases ha : a.getLsbD i
      · simp
      · simp [show i < 128 by omega]
    · have e : (if a.getLsbD k = true then BitVec.twoPow 128 k else 0#128).getLsbD i = false := by
        cases a.getLsbD k
        · simp
        · rw [if_pos rfl, BitVec.getLsbD_twoPow, decide_eq_false (fun e : k = i => h e.symm), Bool.and_false]
      rw [e, Bool.xor_false]
      congr 1
      rw [decide_eq_decide]
      omega
theorem gsum_pow (a : BitVec 128) : gsum (fun j => BitVec.twoPow 128 j) a 128 = a := by
  apply BitVec.eq_of_getLsbD_eq
  intro i hi
  rw [gsum_pow_bit a 128 (Nat.le_refl _) i, decide_eq_true hi, Bool.true_and]
theorem lin_zero {L : BitVec 128 → BitVec 128} (hL : ∀ a b, L (a ^^^ b) = L a ^^^ L b) : L 0#128 = 0#128 := by
  have := hL 0#128 0#128
  rwa [BitVec.xor_self, BitVec.xor_self] at this
theorem lin_sum {L : BitVec 128 → BitVec 128} (hL : ∀ a b, L (a ^^^ b) = L a ^^^ L b) (f : Nat → BitVec 128) (a : BitVec 128) : ∀ k, L (gsum f a k) = gsum (fun j => L (f j)) a k
  | 0 => lin_zero hL
  | k + 1 => by
    simp only [gsum]
    rw [hL, lin_sum hL f a k]
    cases a.getLsbD k
    · simp [lin_zero hL]
    · simp
theorem gsum_congr (f g : Nat → BitVec 128) (a : BitVec 128) : ∀ k, (∀ j, j < k → f j = g j) → gsum f a k = gsum g a k
  | 0, _ => rfl
  | k + 1, h => by
    simp only [gsum]
    rw [gsum_congr f g a k (fun j hj => h j (by omega)), h k (by omega)]
theorem lin_ext {L R : BitVec 128 → BitVec 128} (hL : ∀ a b, L (a ^^^ b) = L a ^^^ L b) (hR : ∀ a b, R (a ^^^ b) = R a ^^^ R b) (h : ∀ j, j < 128 → L (BitVec.twoPow 128 j) = R (BitVec.twoPow 128 j)) (a : BitVec 128) : L a = R a := by
  rw [← gsum_pow a, lin_sum hL, lin_sum hR]
  exact gsum_congr _ _ _ _ h
theorem gmN_gsum (a b : BitVec 128) : ∀ k, gmN a b k = gsum (gxN b) a k
  | 0 => rfl
  | k + 1 => by simp only [gmN, gsum]; rw [gmN_gsum a b k]
theorem gx_pow : ∀ j : Fin 127, gx (BitVec.twoPow 128 j.val) = BitVec.twoPow 128 (j.val + 1) := by decide +kernel
theorem gxN_one : ∀ j, j < 128 → gxN 1#128 j = BitVec.twoPow 128 j
  | 0, _ => by decide
  | j + 1, h => by
    simp only [gxN]
    rw [gxN_one j (by omega)]
    exact gx_pow ⟨j, by omega⟩
theorem gm_one (b : BitVec 128) : gm b 1#128 = b := by
  unfold gm
  rw [gmN_gsum, gsum_congr _ _ _ _ gxN_one, gsum_pow]
theorem gsum_one (f : Nat → BitVec 128) (j : Nat) : ∀ k, j < 128 → gsum f (BitVec.twoPow 128 j) k = if j < k then f j else 0#128
  | 0, _ => rfl
  | k + 1, h => by
    simp only [gsum]
    rw [gsum_one f j k h, BitVec.getLsbD_twoPow]
    by_cases e : j = k
    · subst e
      simp [h]
    · have e1 : decide (j = k) = false := decide_eq_false e
      rw [e1, Bool.and_false]
      simp only [Bool.false_eq_true, if_false, BitVec.xor_zero]
      by_cases h3 : j < k
      · rw [if_pos h3, if_pos (by omega)]
      · rw [if_neg h3, if_neg (by omega)]
theorem gm_pow (j : Nat) (h : j < 128) (b : BitVec 128) : gm (BitVec.twoPow 128 j) b = gxN b j := by
  unfold gm
  rw [gmN_gsum, gsum_one _ _ _ h, if_pos h]

theorem g128_one : gxN 1#128 128 = ((1#128 ^^^ gxN 1#128 1) ^^^ gxN 1#128 2) ^^^ gxN 1#128 7 := by decide +kernel
theorem gx128 (b : BitVec 128) : gxN b 128 = ((b ^^^ gxN b 1) ^^^ gxN b 2) ^^^ gxN b 7 := by
  refine lin_ext (L := fun b => gxN b 128) (R := fun b => ((b ^^^ gxN b 1) ^^^ gxN b 2) ^^^ gxN b 7) (fun a b => gxN_xor a b 128) ?_ ?_ b
  · intro a b
    show (((a ^^^ b) ^^^ gxN (a ^^^ b) 1) ^^^ gxN (a ^^^ b) 2) ^^^ gxN (a ^^^ b) 7 = _
    rw [gxN_xor, gxN_xor, gxN_xor]
    ac_rfl
  · intro j hj
    show gxN (BitVec.twoPow 128 j) 128 = ((BitVec.twoPow 128 j ^^^ gxN (BitVec.twoPow 128 j) 1) ^^^ gxN (BitVec.twoPow 128 j) 2) ^^^ gxN (BitVec.twoPow 128 j) 7
    rw [← gxN_one j hj, gxN_comm _ _ 128, gxN_comm _ _ 1, gxN_comm _ _ 2, gxN_comm _ _ 7, ← gxN_xor, ← gxN_xor, ← gxN_xor]
    rw [g128_one]
theorem gm_gx_left (a b : BitVec 128) : gm (gx a) b = gx (gm a b) := by
  refine lin_ext (L := fun a => gm (gx a) b) (R := fun a => gx (gm a b)) ?_ ?_ ?_ a
  · intro a a'
    show gm (gx (a ^^^ a')) b = _
    rw [gx_xor, gm_left]
  · intro a a'
    show gx (gm (a ^^^ a') b) = _
    rw [gm_left, gx_xor]
  · intro j hj
    show gm (gx (BitVec.twoPow 128 j)) b = gx (gm (BitVec.twoPow 128 j) b)
    rw [gm_pow j hj]
    by_cases h : j < 127
    · rw [gx_pow ⟨j, h⟩, gm_pow (j + 1) (by omega)]
      rfl
    · have e : j = 127 := by omega
      subst e
      show _ = gxN b 128
      rw [gx128, show gx (BitVec.twoPow 128 127) = ((BitVec.twoPow 128 0 ^^^ BitVec.twoPow 128 1) ^^^ BitVec.twoPow 128 2) ^^^ BitVec.twoPow 128 7 from by decide +kernel, gm_left, gm_left, gm_left, gm_pow 0 (by omega), gm_pow 1 (by omega), gm_pow 2 (by omega), gm_pow 7 (by omega)]
      rfl
theorem gm_gxN_left (a b : BitVec 128) : ∀ k, gm (gxN a k) b = gxN (gm a b) k
  | 0 => rfl
  | k + 1 => by simp only [gxN]; rw [gm_gx_left, gm_gxN_left a b k]
theorem gm_gxN_right (a b : BitVec 128) : ∀ k, gm a (gxN b k) = gxN (gm a b) k
  | 0 => rfl
  | k + 1 => by simp only [gxN]; rw [gm_gx_right, gm_gxN_right a b k]
theorem gm_comm (a b : BitVec 128) : gm a b = gm b a := by
  refine lin_ext (L := fun a => gm a b) (R := fun a => gm b a) (fun a a' => gm_left a a' b) (fun a a' => gm_right b a a') ?_ a
  intro j hj
  show gm (BitVec.twoPow 128 j) b = gm b (BitVec.twoPow 128 j)
  rw [gm_pow j hj, ← gxN_one j hj, gm_gxN_right, gm_one]
theorem gm_assoc (a b c : BitVec 128) : gm (gm a b) c = gm a (gm b c) := by
  refine lin_ext (L := fun a => gm (gm a b) c) (R := fun a => gm a (gm b c)) ?_ (fun a a' => gm_left a a' _) ?_ a
  · intro a a'
    show gm (gm (a ^^^ a') b) c = _
    rw [gm_left, gm_left]
  · intro j hj
    show gm (gm (BitVec.twoPow 128 j) b) c = gm (BitVec.twoPow 128 j) (gm b c)
    rw [gm_pow j hj, gm_pow j hj, gm_gxN_left]
theorem gm_zero (a : BitVec 128) : gm a 0#128 = 0#128 := lin_zero (L := fun b => gm a b) (fun b b' => gm_right a b b')
theorem gm_one' (b : BitVec 128) : gm 1#128 b = b := by rw [gm_comm, gm_one]

def gs (a : BitVec 128) : BitVec 128 := gm a a
theorem gs_xor (a b : BitVec 128) : gs (a ^^^ b) = gs a ^^^ gs b := by
  unfold gs
  rw [gm_left, gm_right, gm_right, gm_comm b a, BitVec.xor_assoc, ← BitVec.xor_assoc (gm a b), BitVec.xor_self, BitVec.zero_xor]
theorem gs_mul (a b : BitVec 128) : gs (gm a b) = gm (gs a) (gs b) := by
  unfold gs
  rw [gm_assoc, ← gm_assoc b a b, gm_comm b a, gm_assoc a b b, ← gm_assoc a a]
theorem gs_pow (j : Nat) (h : j < 128) : gs (BitVec.twoPow 128 j) = gxN (BitVec.twoPow 128 j) j := gm_pow j h _

def apL : List (BitVec 128) → BitVec 128 → Nat → BitVec 128
  | [], _, _ => 0#128
  | t :: ts, v, i => (if v.getLsbD i = true then t else 0#128) ^^^ apL ts v (i + 1)
theorem apL_xor (a b : BitVec 128) : ∀ (l : List (BitVec 128)) (i : Nat), apL l (a ^^^ b) i = apL l a i ^^^ apL l b i
  | [], _ => by simp [apL]
  | t :: ts, i => by simp only [apL]; rw [apL_xor a b ts (i + 1), BitVec.getLsbD_xor, if_lin, v_ac]
def berT : List (BitVec 128) := [54969562866131847669016652494142573320, 305526867633558886955404559995676324868, 305526867633558886955404559995676324870, 104469799312523126935073530960423461388,
  305526867633558886955404559995676324866, 56734434906695435454005472259553578602, 104469799312523126935073530960423461380, 271830150077582418345900040240152313368,
  305526867633558886955404559995676324882, 104470118804432205535668098632526617412, 56734434906695435454005472259553578570, 227145695117876428321601179286510436182,
  104469799312523126935073530960423461444, 305967500991204419130524647600360013666, 271830150077582418345900040240152313496, 227728627380917811012951187023350445606,
  305526867633558886955404559995676325138, 56815181714465587187729576693626853178, 104470118804432205535668098632526616900, 2537993204061707162883588357039153916, 56734434906695435454005472259553577546,
  3012428575888700110705650160495551628, 227145695117876428321601179286510434134, 275671395948664093117384310641479295528, 104469799312523126935073530960423465540,
  271915852323952067842399232303023203416, 305967500991204419130524647600360005474, 102998777379450204286412735627287799860, 271830150077582418345900040240152297112,
  272209106874770544727132909282711537316, 227728627380917811012951187023350412838, 135325830696997074197434372310186257282, 305526867633558886955404559995676390674,
  57232084741685004684866676497372669754, 56815181714465587187729576693626984250, 135411474552265958872087683058005180738, 104470118804432205535668098632526879044,
  275757512462385460142162890854388625828, 2537993204061707162883588357039678204, 274842411402277094064293402576501149528, 56734434906695435454005472259554626122, 175382474467339210118195525752143821788,
  3012428575888700110705650160497648780, 5261797816253387317062014170447638976, 227145695117876428321601179286514628438, 272210066766835802062006483639670336468, 275671395948664093117384310641470906920,
  225136856268418471551472419225175749014, 104469799312523126935073530960440242756, 102164174349821125137969924442995585924, 271915852323952067842399232302989648984,
  226936647763116174786496543602468507498, 305967500991204419130524647600427114338, 305532029585887981283514747020026657774, 102998777379450204286412735627422017588,
  133211003395652039953403666705387164366, 271830150077582418345900040239883861656, 102148097239065330920971689869502701364, 272209106874770544727132909283248408228,
  173139448164521758332819425568250980204, 227728627380917811012951187022276671014, 305961988162602755697098987302884752222, 135325830696997074197434372312333740930,
  175397880387343143921058595535091746080, 305526867633558886955404559991381423378, 329634352286836299080082914081100, 57232084741685004684866676505962604346, 172705286512742171128536335012890908524,
  56815181714465587187729576710806853434, 303614986222712004812458293485509624930, 135411474552265958872087683023645442370, 170536380025231687221712635462198253856,
  104470118804432205535668098701246355780, 225051247907070202050589524227723711914, 275757512462385460142162890991827579300, 308170559265311564786252692292247708062,
  2537993204061707162883588082161771260, 102169133813289299704984590013427707636, 274842411402277094064293402026745335640, 303326766809063102477989677003176958226, 56734434906695435454005473359066253898,
  172841837191359616877872241477191677152, 175382474467339210118195523553120566236, 54888141419452711199816878900948880442, 3012428575888700110705654558544159884, 307799342647640341558117533281787318686,
  5261797816253387317062022966540661184, 273119276677551945356669168913118222868, 227145695117876428321601196878700672854, 272311600527812781647585363233504111460,
  272210066766835802062006518824042425300, 5181299727675599870287693023180209980, 275671395948664093117384240272726729256, 305525142620375929691910208574098026146,
  225136856268418471551472278487687393686, 307772801086609188417528170053220769746, 104469799312523126935073249485463532100, 54596111748351997025280216654447342278,
  102164174349821125137970487392949007236, 308164931596625094656266467235253809106, 271915852323952067842398106403082806360, 227647953955287367714133036452945544742,
  226936647763116174786494291802654822250, 308170555145571807541189819739699809694, 305967500991204419130520144000799743842, 133105130754254600986622393405343152142,
  305532029585887981283523754219281398766, 172410759080424577518324870893406614048, 102998777379450204286394721228912535604, 54969320214588899006126198736319185926,
  133211003395652039953439695502406128334, 227375442280390979429973553919662004774, 271830150077582418345827982645845933720, 4955917326648230773508684280683823104,
  102148097239065330921115805057578557236, 172885700256406002458384310923462859152, 272209106874770544726844678907096696484, 56538291399058816093646072645906817530,
  173139448164521758332242964815947556716, 55418003596362017635628740176384579466, 227728627380917811014104108526883517990, 0, 305961988162602755699404830312098446174,
  178356100567250831900639352525185366892, 135325830696997074202046058330761128834, 189481146061086134017106552491789565356, 175397880387343143911835223498236970272,
  75361565302940573017734093940626417402]
set_option maxRecDepth 100000 in
theorem ber : ∀ j : Fin 128, apL berT (gxN (BitVec.twoPow 128 j.val) j.val ^^^ BitVec.twoPow 128 j.val) 0 = if j.val = 0 then 0#128 else BitVec.twoPow 128 j.val := by decide +kernel
theorem idem (e : BitVec 128) (h : gs e = e) : e = 0#128 ∨ e = 1#128 := by
  have hb : ∀ a : BitVec 128, apL berT (gs a ^^^ a) 0 = a &&& 340282366920938463463374607431768211454#128 := by
    intro a
    refine lin_ext (L := fun a => apL berT (gs a ^^^ a) 0) (R := fun a => a &&& 340282366920938463463374607431768211454#128) ?_ ?_ ?_ a
    · intro a b
      show apL berT (gs (a ^^^ b) ^^^ (a ^^^ b)) 0 = _
      rw [gs_xor, v_ac, apL_xor]
    · intro a b
      apply BitVec.eq_of_getLsbD_eq
      intro i hi
      simp only [BitVec.getLsbD_and, BitVec.getLsbD_xor]
      cases a.getLsbD i <;> cases b.getLsbD i <;> simp
    · intro j hj
      show apL berT (gs (BitVec.twoPow 128 j) ^^^ BitVec.twoPow 128 j) 0 = BitVec.twoPow 128 j &&& 340282366920938463463374607431768211454#128
      rw [gs_pow j hj, ber ⟨j, hj⟩]
      revert j
      intro j hj
      have : ∀ j : Fin 128, (if j.val = 0 then 0#128 else BitVec.twoPow 128 j.val) = BitVec.twoPow 128 j.val &&& 340282366920938463463374607431768211454#128 := by decide +kernel
      exact this ⟨j, hj⟩
  have h1 := hb e
  rw [h, BitVec.xor_self, lin_zero (L := fun a => apL berT a 0) (fun a b => apL_xor a b berT 0)] at h1
  have h2 : ∀ i, 0 < i → i < 128 → e.getLsbD i = false := by
    intro i h0 hi
    have e1 := congrArg (fun v => v.getLsbD i) h1
    have e2 : ∀ i : Fin 128, 0 < i.val → (340282366920938463463374607431768211454#128).getLsbD i.val = true := by decide +kernel
    simp only [BitVec.getLsbD_and] at e1
    rw [e2 ⟨i, hi⟩ h0, Bool.and_true] at e1
    rw [← e1]
    exact BitVec.getLsbD_zero
  have one : ∀ i : Fin 128, (1#128).getLsbD i.val = decide (i.val = 0) := by decide +kernel
  by_cases h0 : e.getLsbD 0 = true
  · right
    apply BitVec.eq_of_getLsbD_eq
    intro i hi
    rw [one ⟨i, hi⟩]
    by_cases hz : i = 0
    · subst hz; rw [h0]; rfl
    · rw [h2 i (by omega) hi, decide_eq_false hz]
  · left
    apply BitVec.eq_of_getLsbD_eq
    intro i hi
    rw [BitVec.getLsbD_zero]
    by_cases hz : i = 0
    · subst hz; simpa using h0
    · exact h2 i (by omega) hi

def gsN (a : BitVec 128) : Nat → BitVec 128
  | 0 => a
  | k + 1 => gs (gsN a k)
def chainT : List (BitVec 128) := [2, 4, 16, 256, 65536, 4294967296, 18446744073709551616, 135, 16405, 268435729, 72057594037993729, 5192296858534827628530500624252929, 10695801939444132319206437814273, 40852786614935679133548678,
  594486085799880, 317319171807580447641733255232, 21272841581577792734377501409119104880, 178123058470187579300754373079857658247, 185309517472602589216710143146226674206,
  243359572833697916948025442825716044212, 2242402909557391341593841539292758713, 23534795660742517158384838884479883757, 174985988737277424980776175160916846157, 175030095290142335996286672108454299053,
  265807388946362947165055761130818848797, 249252559114209554249604311851685858361, 58796763164556581763983006251523293764, 49134626841591323031921206452464859177, 27987540068191889485421864406071811155,
  271029757364165806137532465049589437209, 280724925951004403811542151209009346242, 128752713728467045721822022561693573808, 159741227827866894033846763158209103146,
  274834116766907886484561602157405644722, 269592872973127703478481607229849893488, 281740353144251213267627901976484830580, 43449847600466687806806694967245739940,
  37727843099595198433684011782007776478, 311928417185453978908537250809886516984, 297740222968517774644413722072226000397, 32339339626698503367513300576590613010,
  223132434853550809815195064548738067112, 265523960741914972480486897956328640665, 317476001073086156486538380654899563653, 281134273668648985900959546328737677036,
  134228771238834113055021444037992255816, 150254873993691350120483903676558564010, 233624311168361768088952357930788403998, 301852678830317075984151617556076790269,
  334713874327018819147718792733305726656, 102613057823079007323731014766805608102, 102960897267461938273022342347012760795, 12615472659389050585944223579430941846,
  127982396443970808193093289421192168483, 80211020574021611523259929375765860447, 328306714951167239883061265636229931255, 154202500596702199027624208412024772979,
  243851091912831247504069218024646202792, 27440791048182847192756476088690644789, 211387903213242387898935001709526309270, 159829576190644668190096436593299055684,
  211134062703199012190249497033863383866, 82185866721533220436512213066902333519, 327395961906668187682165754937045283500, 129460184901158119860735353079755610614,
  165640453935684170557382138895643060837, 258895673196720778598706762360552858556, 301930392259976828106625834641931740308, 254590090333913220966971847449742103658,
  154605543219637426435106976091970670442, 328554470600989978311552677909447941173, 66427334083092228965437207507360258028, 269818012861271281423176274446422361113,
  264132206416858785477441377236972222062, 334025740161143946608295602721698306491, 122383803109284106894334171034010591779, 296025850348968698648586558724418263869,
  37960944824515205685591230648204258402, 226742293150914418175831072849372273624, 248467511393027050396179622604745119342, 161687256048543766767383987762312963194,
  269110802679140966820977389101215773081, 195167772352272279581770856328715365701, 6839019468748781921035578916625770989, 119133456490525504919656485393064943290,
  284976786280009736580048287615377352507, 53368461820224018424322992725600146993, 165521487478005576843608560748526611000, 195068410978310211650239904624548258566,
  113589941149803520359128394698002916676, 249467295398400182484435455780551427523, 75006380269635190750556711265086168923, 318824008587287836741888684444380361623,
  178459331004814995506250383468567150771, 211872363948266361377324272839095225429, 143811789042420870636385239690585466781, 86248589110002907259851524152594849147,
  44507931730853748353717482469352571553, 32963873827986936976259691565938463060, 216630587467047648990556766097492264828, 185272067944601170075289186680278366549,
  220985417642294560069226125886699449841, 264688778274977021302766754871988896216, 333264177890741770072193430405525003928, 33205950964766484238866480871644341798,
  301310530123703810140221288298382736979, 254546671986439821273357947065150691235, 154463474563896264286711223429656871936, 238553731111275542579218303752720181533,
  18384089493480778990035902178609102351, 75820400037257621222803633372476097890, 317696663419018730218660346852253168842, 265151192445743918497476159262292403413,
  227243742383211985895879960446026839890, 253422517028958359388508295558326299841, 150927228725920353331738429768615062888, 313214421372485833387472208663997282205,
  205270197963465857064863719867483624364, 64566217092196733533220887167246694252, 296938408697389789750215214903058009285, 10807226621238021931262095742919972793,
  129631382596958590886433730895748353798, 59414367279926819390058891142076462501, 70216996008105906389747657374764050840, 264664062837534286517811593844813647762,
  313275912279873968957145467509231826604, 205249681632336591850764335734481569114, 48611766702991209068831621643639680420, 2]
set_option maxRecDepth 100000 in
theorem chain_ok : ∀ k : Fin 128, gs (chainT.getD k.val 0#128) = chainT.getD (k.val + 1) 0#128 := by decide +kernel
theorem gsN_two : ∀ k, k ≤ 128 → gsN 2#128 k = chainT.getD k 0#128
  | 0, _ => by decide +kernel
  | k + 1, h => by simp only [gsN]; rw [gsN_two k (by omega), chain_ok ⟨k, by omega⟩]
theorem gsN_xor (a b : BitVec 128) : ∀ k, gsN (a ^^^ b) k = gsN a k ^^^ gsN b k
  | 0 => rfl
  | k + 1 => by simp only [gsN]; rw [gsN_xor a b k, gs_xor]
theorem gsN_mul (a b : BitVec 128) : ∀ k, gsN (gm a b) k = gm (gsN a k) (gsN b k)
  | 0 => rfl
  | k + 1 => by simp only [gsN]; rw [gsN_mul a b k, gs_mul]
theorem gsN_one : ∀ k, gsN 1#128 k = 1#128
  | 0 => rfl
  | k + 1 => by simp only [gsN]; rw [gsN_one k]; exact gm_one _
theorem gx_two (b : BitVec 128) : gx b = gm 2#128 b := by
  have := gm_pow 1 (by omega) b
  rw [show BitVec.twoPow 128 1 = 2#128 from by decide] at this
  rw [this]; rfl
theorem gsN_id (a : BitVec 128) : gsN a 128 = a := by
  refine lin_ext (L := fun a => gsN a 128) (R := fun a => a) (fun a b => gsN_xor a b 128) (fun _ _ => rfl) ?_ a
  intro j hj
  show gsN (BitVec.twoPow 128 j) 128 = BitVec.twoPow 128 j
  rw [← gxN_one j hj]
  have h2 : gsN 2#128 128 = 2#128 := by rw [gsN_two 128 (Nat.le_refl _)]; decide +kernel
  clear hj
  induction j with
  | zero => exact gsN_one 128
  | succ j ih =>
    show gsN (gx (gxN 1#128 j)) 128 = gx (gxN 1#128 j)
    rw [gx_two, gsN_mul, h2, ih]

def gp (a : BitVec 128) : Nat → BitVec 128
  | 0 => 1#128
  | n + 1 => gm a (gp a n)
theorem gp_add (a : BitVec 128) (m : Nat) : ∀ n, gp a (n + m) = gm (gp a n) (gp a m)
  | 0 => by rw [Nat.zero_add]; exact (gm_one' _).symm
  | n + 1 => by
    rw [show n + 1 + m = n + m + 1 by omega]
    simp only [gp]
    rw [gp_add a m n, gm_assoc]
theorem gsN_gp (a : BitVec 128) : ∀ k, gsN a k = gp a (2 ^ k)
  | 0 => (gm_one a).symm
  | k + 1 => by
    simp only [gsN]
    rw [gsN_gp a k, show 2 ^ (k + 1) = 2 ^ k + 2 ^ k by rw [Nat.pow_succ]; omega, gp_add]
    rfl
theorem ginv (a : BitVec 128) (h : a ≠ 0#128) : ∃ b, gm a b = 1#128 := by
  have h1 := gsN_id a
  rw [gsN_gp] at h1
  obtain ⟨N, hN⟩ : ∃ N, 2 ^ 128 = N + 1 + 1 := ⟨2 ^ 128 - 2, by decide⟩
  rw [hN] at h1
  have h2 : gs (gp a (N + 1)) = gp a (N + 1) := by
    show gm (gp a (N + 1)) (gp a (N + 1)) = _
    rw [← gp_add, show N + 1 + (N + 1) = (N + 1 + 1) + N by omega, gp_add, h1]
    rfl
  rcases idem _ h2 with e | e
  · exfalso
    apply h
    rw [← h1]
    show gm a (gp a (N + 1)) = _
    rw [e, gm_zero]
  · exact ⟨gp a N, e⟩
theorem gm_ne (a b : BitVec 128) (h : gm a b = 0#128) (hb : b ≠ 0#128) : a = 0#128 := by
  obtain ⟨c, hc⟩ := ginv b hb
  have : gm (gm a b) c = a := by rw [gm_assoc, hc, gm_one]
  rw [← this, h, gm_comm, gm_zero]
end Go.Proofs.YtgalgjmhdbncbabGreat

import Derived.Test.YtdhobdmhnocbgabGreatDoorRows
import Derived.Test.YtdhobdmhnocbgabGreatDoorSPure
import Derived.WalkKit
import Derived.WalkSpells
import Derived.WalkLawsBesides
import Derived.Test.YtdhobdmhnocbgabGreatDoorSRecs
import Derived.Shelf.LaysM
import Derived.Shelf.Strconv.Itoa3
import Derived.Lib.AppendIntMem
import Derived.Lib.ItoaLen
namespace Go.Proofs.YtdhobdmhnocbgabGreatDoor
open Go.RowKit
theorem big {n:Nat} (h:n≤65535):n≤281474976710656:=by omega
theorem Qa {p:Prop} (h:p):Hid p:=h
theorem Q6 {p:Prop} (h:Hid p):p:=h
theorem QkK {k:IntKind} {a b:Int} (h:a=b):Ending.returned (.int k a)=.returned (.int k b):=by rw [h]
theorem Q0B {a b:Bool} (h:a=b):Ending.returned (.bool a)=.returned (.bool b):=by rw [h]
theorem Qf4 {a b:ByteArray} (h:a=b):Ending.returned (.string a)=.returned (.string b):=by rw [h]
theorem Q1c (s:ByteArray):s.toList.isEmpty=decide (s.size=0):=by
 rw [ByteArray.toList_eq,Bool.eq_iff_iff]
 simp only [List.isEmpty_iff,decide_eq_true_eq]
 constructor
 ·intro h; show s.data.size=0; rw [←Array.length_toList,h]; rfl
 ·intro h; exact List.eq_nil_of_length_eq_zero (by rw [Array.length_toList]; exact h)
theorem Q1C (s t:ByteArray):(s.toList == t.toList)=decide (s=t):=by
 rw [ByteArray.toList_eq,ByteArray.toList_eq,Bool.eq_iff_iff]
 simp only [beq_iff_eq,decide_eq_true_eq]
 constructor
 ·intro h; exact ByteArray.ext (Array.toList_inj.1 h)
 ·intro h; rw [h]
theorem Qc {w:World} {k:Nat} {cs:Array Value} {t:TypeId} (h:w.heap[k]? = some (.cells cs t (0,0))) (j:Nat):w.cell? ⟨k,j,none⟩=cs[j]?:=by
 simp [World.cell?,h]
theorem Qd {w:World} {k:Nat} {cs:Array Value} {t:TypeId} (h:w.heap[k]? = some (.cells cs t (0,0))) (j:Nat):w.frozen? ⟨k,j,none⟩=false:=by
 simp [World.frozen?,h]
theorem Qo {w:World} {k:Nat} {cs:Array Value} {t:TypeId} (h:w.heap[k]? = some (.cells cs t (0,0))) (j:Nat) (v:Value):(w.setCell ⟨k,j,none⟩ v).heap[k]? = some (.cells (cs.setIfInBounds j v) t (0,0)):=by
 simp [World.setCell,Array.getElem?_modify,h]
theorem Qf {w:World} {k R:Nat} (h:k≠R) (j:Nat) (v:Value):(w.setCell ⟨R,j,none⟩ v).heap[k]? = w.heap[k]?:=Below.heap_setCell _ _ _ _ h
theorem Q0l (w:World) (a:Addr) (v:Value):(w.setCell a v).heap.size=w.heap.size:=by simp [World.setCell]
theorem Qb {w:World} {k:Nat} {o:Obj} (h:w.heap[k]? = some o):k < w.heap.size:=(Array.getElem?_eq_some_iff.1 h).1
theorem Q0x {B:Nat} {w w':World} (h:Below B w.drew w'):Below B w w':=⟨h.os,h.tape,h.output,h.size,h.block⟩
theorem Ql3 {W w1:World} (hb:Below W.heap.size W w1):(∀ b o,b < W.heap.size→w1.cell? ⟨b,o,none⟩=W.cell? ⟨b,o,none⟩)∧(∀ b o,b < W.heap.size→w1.frozen? ⟨b,o,none⟩=W.frozen? ⟨b,o,none⟩) :=
 ⟨fun b o h=>hb.cell (p:=⟨b,o,none⟩) h,fun b o h=>hb.frozen (p:=⟨b,o,none⟩) h⟩
def Zr.Run.val (r:Zr.Run):Value:=.agg #[.string r.labels,.int .i64 r.next,.bool r.pointed,.int .i64 r.to,.int .i64 r.fail]
theorem Q2H (b:ByteArray) (k n:Int) (w:World) (hb:b.size≤281474976710656) (h1:0≤k) (h2:0≤n) (h3:k+n≤b.size) :
  Calls Tryz.prog 175 #[.string b,.int .i64 k,.int .i64 n] w fun e w'=>e=.returned (.bool true)∧w'=w:=by
 go_enter Tryz.func175,Tryz.ntmps175
 go_wp2
 go_ret
 exact ⟨by simp; omega,rfl⟩
theorem Q9H (b:ByteArray) (k n:Int) (w:World) (hb:b.size≤281474976710656) (h1:0≤k) (h2:0≤n) (h3:(b.size:Int) < k+n) (h4:k≤281474976710656) :
  Calls Tryz.prog 175 #[.string b,.int .i64 k,.int .i64 n] w fun e w'=>e=.returned (.bool false)∧w'=w:=by
 go_enter Tryz.func175,Tryz.ntmps175
 go_wp2
 go_ret
 exact ⟨by simp; omega,rfl⟩
end Go.Proofs.YtdhobdmhnocbgabGreatDoor
namespace Go.Proofs.YtdhobdmhnocbgabGreatDoor
open Go.RowKit Zr
set_option maxHeartbeats 400000 in
theorem Q27 (b:ByteArray) (k:Int) (w:World) (_hb:b.size≤281474976710656) (h0:0≤k) (h1:k < b.size) :
  Calls Tryz.prog 150 #[.string b,.int .i64 k] w fun e w'=>e=.returned (.int .i64 (bt b k.toNat))∧w'=w:=by
 obtain ⟨k,rfl⟩:=Int.eq_ofNat_of_zero_le h0
 rw [Int.toNat_natCast]
 have hg:=Q10 b k (by omega)
 have hl:=Q20 b k
 go_enter Tryz.func150,Tryz.ntmps150
 go_wp2_with fail
 go_ret
 exact ⟨rfl,rfl⟩
set_option maxHeartbeats 400000 in
theorem Qbd (b:ByteArray) (k:Int) (w:World) (_hb:b.size≤281474976710656) (h0:0≤k) (h1:(b.size:Int)≤k) :
  Calls Tryz.prog 150 #[.string b,.int .i64 k] w fun e w'=>e=.returned (.int .i64 (-1))∧w'=w:=by
 go_enter Tryz.func150,Tryz.ntmps150
 go_wp2_with fail
 go_ret
 exact ⟨rfl,rfl⟩
set_option maxHeartbeats 400000 in
theorem Q3y (b:ByteArray) (k n:Int) (w:World) (hb:b.size≤65535) (h0:0≤k) (h0':k≤4294967296) (hn:0≤n) (hn4:n≤4) (h:(b.size:Int) < k+n) :
  Calls Tryz.prog 75 #[.string b,.int .i64 k,.int .i64 n] w fun e w'=>e=.returned (.tuple #[.int .i64 0,.bool false])∧w'=w:=by
 go_enter Tryz.func75,Tryz.ntmps75
 go_wp2_with fail
 go_ret2
 exact ⟨rfl,rfl⟩
set_option maxHeartbeats 400000 in
theorem Q0z (b:ByteArray) (k n:Int) (w:World) (hb:b.size≤65535) (h0:0≤k) (hn:0≤n) (hn4:n≤4) (h:k+n≤b.size) :
  Calls Tryz.prog 75 #[.string b,.int .i64 k,.int .i64 n] w fun e w'=>e=.returned (.tuple #[.int .i64 (num b k.toNat n.toNat),.bool true])∧w'=w:=by
 obtain ⟨k,rfl⟩:=Int.eq_ofNat_of_zero_le h0
 obtain ⟨n,rfl⟩:=Int.eq_ofNat_of_zero_le hn
 rw [Int.toNat_natCast,Int.toNat_natCast]
 go_enter Tryz.func75,Tryz.ntmps75
 go_wp2_with fail
 go_loop [8,9] (fun v i=>∃ j:Nat,j≤n∧i=.int .i64 j∧v=.int .i64 (num b k j)) (fun _ i=>n - (intOf i).toNat)
 case atStart=>exact ⟨0,Nat.zero_le _,rfl,rfl⟩
 case round =>
  obtain ⟨j,hj,rfl,rfl⟩:=hrel
  have hl:=Q6A b k j (by omega)
  by_cases c:j < n
  ·have hb1:=Q10 b (k+j) (by omega)
   have hb2:=Q20 b (k+j)
   go_wp2_with fail
   go_round
   case rel=>exact ⟨j+1,by omega,by go_num,by simp only [num]; congr 1⟩
   case measure=>simp [intOf]; omega
  ·have hj':j=n:=by omega
   subst hj'
   go_wp2_with fail
   go_ret2
   exact ⟨rfl,rfl⟩
theorem Q4s (b:ByteArray) (k:Int) (w:World) (hb:b.size≤65535) (h0:0≤k) (h5:k≤5) (h:12≤b.size) :
  Calls Tryz.prog 42 #[.string b,.int .i64 k] w fun e w'=>e=.returned (.tuple #[.int .i64 (num b (2 * k.toNat) 2),.bool true])∧w'=w:=by
 obtain ⟨k,rfl⟩:=Int.eq_ofNat_of_zero_le h0
 rw [Int.toNat_natCast]
 go_enter Tryz.func42,Tryz.ntmps42
 go_wp2_with fail
 refine (Q0z b (2 * k) 2 _ hb (by omega) (by omega) (by omega) (by omega)).mono ?_
 rw [show (2 * (k:Int)).toNat=2 * k from by omega]
 rintro e w' ⟨rfl,rfl⟩
 go_wp2_with fail
 go_ret2
 exact ⟨rfl,rfl⟩
def Q7o (res:Except Int (ByteArray × Nat)) (e:Ending):Prop :=
 match res with
 | .ok (s,t)=>e=.returned (.tuple #[.string s,.int .i64 t,.int .i64 0])
 | .error x=>x≠0∧∃ (s:ByteArray) (t:Int),e=.returned (.tuple #[.string s,.int .i64 t,.int .i64 x])
set_option maxRecDepth 100000 in
set_option maxHeartbeats 4000000 in
theorem Qj4 (b:ByteArray) (hb:b.size≤281474976710656):∀ (f:Nat) (k run front:Int) (w:World),0≤k→k≤281474976710956→0≤run→run≤281474976710956→0≤front→front≤254→Q3c b k.toNat run.toNat < f →
  Calls Tryz.prog 115 #[.string b,.int .i64 k,.int .i64 run,.int .i64 front] w fun e w'=>Q7o (Q3l b k.toNat run.toNat front.toNat) e∧w'=w:=by
 intro f
 induction f with
 | zero=>intro k run front w _ _ _ _ _ _ h; omega
 | succ f ih =>
  intro k run front w hk hk1 hr hr1 hf hf1 hen
  have IH:=Qa ih
  clear ih
  obtain ⟨k,rfl⟩:=Int.eq_ofNat_of_zero_le hk
  obtain ⟨run,rfl⟩:=Int.eq_ofNat_of_zero_le hr
  obtain ⟨front,rfl⟩:=Int.eq_ofNat_of_zero_le hf
  simp only [Int.toNat_natCast] at hen ⊢
  have hE:=Q2B b k run front
  by_cases c0:b.size≤k
  ·rw [if_pos c0] at hE
   have HE:=Qa hE
   clear hE
   go_enter Tryz.func115,Tryz.ntmps115
   go_wp2_with fail
   refine (Qbd b k _ hb (by omega) (by omega)).mono ?_
   rintro e w' ⟨rfl,rfl⟩
   go_wp2_with fail
   go_ret3
   exact ⟨by rw [Q6 HE]; exact ⟨by decide,_,_,rfl⟩,rfl⟩
  rw [if_neg c0] at hE
  have hl:=Q20 b k
  by_cases c1:bt b k=0
  ·rw [if_pos c1] at hE
   have HE:=Qa hE
   clear hE
   go_enter Tryz.func115,Tryz.ntmps115
   go_wp2_with fail
   refine (Q27 b k _ hb (by omega) (by omega)).mono ?_
   rw [Int.toNat_natCast]
   rintro e w' ⟨rfl,rfl⟩
   go_wp2_with fail
   go_ret3
   exact ⟨by rw [Q6 HE]; rfl,rfl⟩
  rw [if_neg c1] at hE
  have n1:((bt b k:Int) == 0)=false:=beq_eq_false_iff_ne.2 (by omega)
  by_cases c2:63 < bt b k
  ·rw [if_pos c2] at hE
   by_cases c3:bt b k < 192
   ·rw [if_pos c3] at hE
    have HE:=Qa hE
    clear hE
    go_enter Tryz.func115,Tryz.ntmps115
    go_wp2_with fail
    refine (Q27 b k _ hb (by omega) (by omega)).mono ?_
    rw [Int.toNat_natCast]
    rintro e w' ⟨rfl,rfl⟩
    go_wp2_with fail
    go_ret3
    exact ⟨by rw [Q6 HE]; exact ⟨by decide,_,_,rfl⟩,rfl⟩
   rw [if_neg c3] at hE
   by_cases c4:b.size≤k+1
   ·rw [if_pos c4] at hE
    have HE:=Qa hE
    clear hE
    go_enter Tryz.func115,Tryz.ntmps115
    go_wp2_with fail
    refine (Q27 b k _ hb (by omega) (by omega)).mono ?_
    rw [Int.toNat_natCast]
    rintro e w' ⟨rfl,rfl⟩
    go_wp2_with fail
    refine (Qbd b (k+1) _ hb (by omega) (by omega)).mono ?_
    rintro e w' ⟨rfl,rfl⟩
    go_wp2_with fail
    go_ret3
    exact ⟨by rw [Q6 HE]; exact ⟨by decide,_,_,rfl⟩,rfl⟩
   rw [if_neg c4] at hE
   have hl1:=Q20 b (k+1)
   have ht1:((k:Int)+1).toNat=k+1:=by omega
   by_cases c5:run≤256 * (bt b k - 192)+bt b (k+1)
   ·rw [if_pos c5] at hE
    have HE:=Qa hE
    clear hE
    go_enter Tryz.func115,Tryz.ntmps115
    go_wp2_with fail
    refine (Q27 b k _ hb (by omega) (by omega)).mono ?_
    rw [Int.toNat_natCast]
    rintro e w' ⟨rfl,rfl⟩
    go_wp2_with fail
    refine (Q27 b (k+1) _ hb (by omega) (by omega)).mono ?_
    rw [ht1]
    rintro e w' ⟨rfl,rfl⟩
    go_wp2_with fail
    go_ret3
    exact ⟨by rw [Q6 HE]; exact ⟨by decide,_,_,rfl⟩,rfl⟩
   ·rw [if_neg c5] at hE
    have HE:=Qa hE
    clear hE
    have ht2:(256 * ((bt b k:Int) - 192)+(bt b (k+1):Int)).toNat=256 * (bt b k - 192)+bt b (k+1):=by omega
    have hen2:=Q5l b k run (256 * (bt b k - 192)+bt b (k+1)) (by omega) (by omega)
    have key:∀ w,Calls Tryz.prog 115 #[.string b,.int .i64 (256 * ((bt b k:Int) - 192)+(bt b (k+1):Int)),.int .i64 (256 * ((bt b k:Int) - 192)+(bt b (k+1):Int)),.int .i64 front] w fun e w'=>Q7o (Q3l b (256 * (bt b k - 192)+bt b (k+1)) (256 * (bt b k - 192)+bt b (k+1)) front) e∧w'=w:=by
     intro w
     have:=Q6 IH (256 * ((bt b k:Int) - 192)+(bt b (k+1):Int)) (256 * ((bt b k:Int) - 192)+(bt b (k+1):Int)) front w (by omega) (by omega) (by omega) (by omega) (by omega) (by omega) (by rw [ht2]; omega)
     rw [ht2,Int.toNat_natCast] at this
     exact this
    have Key:=Qa key
    clear key hen hen2 ht2 IH
    generalize Q3l b (256 * (bt b k - 192)+bt b (k+1)) (256 * (bt b k - 192)+bt b (k+1)) front=x at *
    go_enter Tryz.func115,Tryz.ntmps115
    go_wp2_with fail
    refine (Q27 b k _ hb (by omega) (by omega)).mono ?_
    rw [Int.toNat_natCast]
    rintro e w' ⟨rfl,rfl⟩
    go_wp2_with fail
    refine (Q27 b (k+1) _ hb (by omega) (by omega)).mono ?_
    rw [ht1]
    rintro e w' ⟨rfl,rfl⟩
    go_wp2_with fail
    refine (Q6 Key _).mono ?_
    rintro e w' ⟨hp,rfl⟩
    cases x with
    | ok z =>
     obtain ⟨s,t⟩:=z
     have hp':e=_:=hp
     subst hp'
     clear hp
     go_wp2_with fail
     go_ret3
     exact ⟨by rw [Q6 HE]; rfl,rfl⟩
    | error x =>
     obtain ⟨hx,s,t,rfl⟩:=hp
     have Hx:=Qa hx
     clear hx
     go_wp2_with fail
     go_ret3
     exact ⟨by rw [Q6 HE]; exact ⟨Q6 Hx,_,_,rfl⟩,rfl⟩
  rw [if_neg c2] at hE
  by_cases c3:b.size < k+1+bt b k
  ·rw [if_pos c3] at hE
   have HE:=Qa hE
   clear hE
   go_enter Tryz.func115,Tryz.ntmps115
   go_wp2_with fail
   refine (Q27 b k _ hb (by omega) (by omega)).mono ?_
   rw [Int.toNat_natCast]
   rintro e w' ⟨rfl,rfl⟩
   go_wp2_with fail
   go_ret3
   exact ⟨by rw [Q6 HE]; exact ⟨by decide,_,_,rfl⟩,rfl⟩
  rw [if_neg c3] at hE
  by_cases c4:255 < front+1+bt b k+1
  ·rw [if_pos c4] at hE
   have HE:=Qa hE
   clear hE
   go_enter Tryz.func115,Tryz.ntmps115
   go_wp2_with fail
   refine (Q27 b k _ hb (by omega) (by omega)).mono ?_
   rw [Int.toNat_natCast]
   rintro e w' ⟨rfl,rfl⟩
   go_wp2_with fail
   go_ret3
   exact ⟨by rw [Q6 HE]; exact ⟨by decide,_,_,rfl⟩,rfl⟩
  rw [if_neg c4] at hE
  have HE:=Qa hE
  clear hE
  have ht1:((k:Int)+1+(bt b k:Int)).toNat=k+1+bt b k:=by omega
  have ht2:((front:Int)+1+(bt b k:Int)).toNat=front+1+bt b k:=by omega
  have hen2:=Q4d b k (bt b k) run (by omega)
  have key:∀ w,Calls Tryz.prog 115 #[.string b,.int .i64 ((k:Int)+1+(bt b k:Int)),.int .i64 run,.int .i64 ((front:Int)+1+(bt b k:Int))] w fun e w'=>Q7o (Q3l b (k+1+bt b k) run (front+1+bt b k)) e∧w'=w:=by
   intro w
   have:=Q6 IH ((k:Int)+1+(bt b k:Int)) run ((front:Int)+1+(bt b k:Int)) w (by omega) (by omega) (by omega) (by omega) (by omega) (by omega) (by rw [ht1,Int.toNat_natCast]; omega)
   rw [ht1,ht2,Int.toNat_natCast] at this
   exact this
  have hbd:∀ s t,Q3l b (k+1+bt b k) run (front+1+bt b k)=.ok (s,t)→t≤281474976710656∧s.size≤255:=fun s t h=>by
   have:=Q8R b _ (k+1+bt b k) run (front+1+bt b k) (by omega) s t h
   omega
  have Key:=Qa key
  clear key hen hen2 ht2 IH
  generalize Q3l b (k+1+bt b k) run (front+1+bt b k)=x at *
  have Hbd:=Qa hbd
  clear hbd
  go_enter Tryz.func115,Tryz.ntmps115
  go_wp2_with fail
  refine (Q27 b k _ hb (by omega) (by omega)).mono ?_
  rw [Int.toNat_natCast]
  rintro e w' ⟨rfl,rfl⟩
  go_wp2_with fail
  refine (Q6 Key _).mono ?_
  rintro e w' ⟨hp,rfl⟩
  cases x with
  | ok z =>
   obtain ⟨s,t⟩:=z
   have hp':e=_:=hp
   subst hp'
   clear hp
   obtain ⟨g1,g2⟩:=Q6 Hbd s t rfl
   have hz:(b.extract k (k+1+bt b k)).size≤65535:=by rw [ByteArray.size_extract]; omega
   go_wp2_with fail
   go_ret3
   refine ⟨?_,rfl⟩
   rw [Q6 HE]
   show _=_
   simp only
   congr 1
  | error x =>
   obtain ⟨hx,s,t,rfl⟩:=hp
   have hx':(x != 0)=true:=by rw [bne_iff_ne]; exact hx
   have Hx:=Qa hx
   clear hx
   go_wp2_with fail
   go_ret3
   exact ⟨by rw [Q6 HE]; exact ⟨Q6 Hx,_,_,rfl⟩,rfl⟩
end Go.Proofs.YtdhobdmhnocbgabGreatDoor
namespace Go.Proofs.YtdhobdmhnocbgabGreatDoor
open Go.Shelf Go.RowKit
def Tryz.lays171_ren:Go.Shelf.Ren:=⟨fun | 171=>40 | 243=>77 | 246=>111 | 283=>143 | 284=>144 | 285=>145 | 286=>146 | 129=>171 | 317=>170 | 318=>172 | 319=>173 | 320=>174 | 337=>188 | 338=>189 | n=>n,fun | 3=>3 | 9=>9 | 2=>2 | 4=>4 | 171=>184 | 0=>0 | 53=>185 | 37=>128 | 5=>5 | 173=>188 | 212=>203 | 51=>204 | 20=>20 | 213=>205 | 46=>206 | 232=>227 | 233=>228 | n=>n,fun | 17=>0 | 18=>1 | 19=>2 | n=>n⟩
theorem Tryz.lays171:Go.Proofs.LaysM.n171 Tryz.prog Tryz.lays171_ren:={
 mixed:=by kernel_rfl
 f129:=Tryz.func171.trans (congrArg some (by kernel_rfl))
 f171:=Tryz.func40.trans (congrArg some (by kernel_rfl))
 f243:=Tryz.func77.trans (congrArg some (by kernel_rfl))
 f246:=Tryz.func111.trans (congrArg some (by kernel_rfl))
 f283:=Tryz.func143.trans (congrArg some (by kernel_rfl))
 f284:=Tryz.func144.trans (congrArg some (by kernel_rfl))
 f285:=Tryz.func145.trans (congrArg some (by kernel_rfl))
 f286:=Tryz.func146.trans (congrArg some (by kernel_rfl))
 f317:=Tryz.func170.trans (congrArg some (by kernel_rfl))
 f318:=Tryz.func172.trans (congrArg some (by kernel_rfl))
 f319:=Tryz.func173.trans (congrArg some (by kernel_rfl))
 f320:=Tryz.func174.trans (congrArg some (by kernel_rfl))
 f337:=Tryz.func188.trans (congrArg some (by kernel_rfl))
 f338:=Tryz.func189.trans (congrArg some (by kernel_rfl))
 t0:=Tryz.underlying0
 a0:=Tryz.isAgg0
 z0:=Tryz.sizeOf0
 v0:=Tryz.zeroValue0
 t2:=Tryz.underlying2
 a2:=Tryz.isAgg2
 z2:=Tryz.sizeOf2
 v2:=Tryz.zeroValue2
 t3:=Tryz.underlying3
 a3:=Tryz.isAgg3
 z3:=Tryz.sizeOf3
 v3:=Tryz.zeroValue3
 t4:=Tryz.underlying4
 a4:=Tryz.isAgg4
 z4:=Tryz.sizeOf4
 v4:=Tryz.zeroValue4
 t5:=Tryz.underlying5
 a5:=Tryz.isAgg5
 z5:=Tryz.sizeOf5
 v5:=Tryz.zeroValue5
 t9:=Tryz.underlying9
 a9:=Tryz.isAgg9
 z9:=Tryz.sizeOf9
 v9:=Tryz.zeroValue9
 t20:=Tryz.underlying20
 a20:=Tryz.isAgg20
 z20:=Tryz.sizeOf20
 v20:=Tryz.zeroValue20
 t37:=Tryz.underlying128
 a37:=Tryz.isAgg128
 z37:=Tryz.sizeOf128
 v37:=Tryz.zeroValue128
 t46:=Tryz.underlying206
 a46:=Tryz.isAgg206
 z46:=Tryz.sizeOf206
 v46:=Tryz.zeroValue206
 t51:=Tryz.underlying204
 a51:=Tryz.isAgg204
 z51:=Tryz.sizeOf204
 v51:=Tryz.zeroValue204
 t53:=Tryz.underlying185
 a53:=Tryz.isAgg185
 z53:=Tryz.sizeOf185
 v53:=Tryz.zeroValue185
 t171:=Tryz.underlying184
 a171:=Tryz.isAgg184
 z171:=Tryz.sizeOf184
 v171:=Tryz.zeroValue184
 t173:=Tryz.underlying188
 a173:=Tryz.isAgg188
 z173:=Tryz.sizeOf188
 v173:=Tryz.zeroValue188
 t212:=Tryz.underlying203
 a212:=Tryz.isAgg203
 z212:=Tryz.sizeOf203
 v212:=Tryz.zeroValue203
 t213:=Tryz.underlying205
 a213:=Tryz.isAgg205
 z213:=Tryz.sizeOf205
 t232:=Tryz.underlying227
 a232:=Tryz.isAgg227
 z232:=Tryz.sizeOf227
 v232:=Tryz.zeroValue227
 t233:=Tryz.underlying228
 a233:=Tryz.isAgg228
 z233:=Tryz.sizeOf228
 v233:=Tryz.zeroValue228
 g17:=by kernel_rfl
 g18:=by kernel_rfl
 g19:=by kernel_rfl
 i0:=by kernel_rfl
 i2:=by kernel_rfl
 i3:=by kernel_rfl
 i4:=by kernel_rfl
 i5:=by kernel_rfl
 i9:=by kernel_rfl
 i20:=by kernel_rfl
 i37:=by kernel_rfl
 i46:=by kernel_rfl
 i51:=by kernel_rfl
 i53:=by kernel_rfl
 i171:=by kernel_rfl
 i173:=by kernel_rfl
 i212:=by kernel_rfl
 i232:=by kernel_rfl
 i233:=by kernel_rfl
 m17:=by kernel_rfl
 m18:=by kernel_rfl
 m19:=by kernel_rfl }
theorem Qiu (n : Nat) (w : World) (h1 : n ≤ 9223372036854775807) (htab : Lib.TabIs Tryz.prog w "internal/strconv.uint64pow10" .u64 Lib.pow10Tab) :
  Calls Tryz.prog 40 #[.int .i64 (n:Int)] w fun e w'=>(∃ s:ByteArray,s.size≤64∧e=.returned (.string s))∧Below w.heap.size w w':=by
 refine (Any.strconv_Itoa Tryz.lays171 (n:Int) (by omega) (by omega) w htab).mono ?_
 rintro e w' ⟨rfl,k,os,rfl⟩
 refine ⟨⟨_,?_,rfl⟩,⟨rfl,rfl,rfl,by rw [Sort.size_grow]; exact Nat.le_add_right _ _,fun i hi=>?_⟩⟩
 ·have:=Lib.itoa_length_le (n:Int) (by omega) (by omega)
  show ((Lib.itoa (n:Int)).toArray).size≤64
  rw [List.size_toArray]
  omega
 ·show (w.heap++os)[i]? = w.heap[i]?
  exact Array.getElem?_append_left hi
end Go.Proofs.YtdhobdmhnocbgabGreatDoor

/- Contracts, and what they rest on. Conditions: the theorems' premises. -/
import Derived.Test.YtgiicohbigiapaaGreatRag
import Derived.Test.YtgiicohbigiapaaGreatRbj
set_option maxHeartbeats 4000000
set_option maxRecDepth 100000
open Go.Lib(hid)
open Go.Proofs.Tryz Go.Proofs.YtgiicohbigiapaaGreat.Bm
namespace Go.Proofs.YtgiicohbigiapaaGreat
open Go.RowKit
theorem WB{T:List Nat}{l:List Bm.Stp}{k:Nat}(hk:k<l.length)(h:xO 0 (l.drop k)≤T.length):l[k].1+l[k].2.1≤T.length∧xO 0 (l.drop (k+1))≤((T.drop l[k].1).drop l[k].2.1).length ∧
  nT T 0 (l.drop k)=T.take l[k].1++nT ((T.drop l[k].1).drop l[k].2.1) 0 (l.drop (k+1)):=by
 rw[List.drop_eq_getElem_cons hk,xO]at h;have h1:=Fe (l.drop (k+1)) (0+l[k].1+l[k].2.1);have h2:=uG (l.drop (k+1)) (l[k].1+l[k].2.1) 0;rw[Nat.add_zero]at h2;rw[Nat.zero_add]at h h1;refine⟨by omega,by rw[List.length_drop,List.length_drop];omega,?_⟩;have h3:=Az T (l.drop (k+1)) 0 (l[k].1+l[k].2.1);rw[Nat.add_zero]at h3;rw[List.drop_eq_getElem_cons hk,nT,Nat.zero_add,List.drop_zero,List.drop_drop,h3]
theorem Gd(X:List Nat)(A:Option Addr)(c:Nat)(l:List Bm.Stp)(w:World)(hX:X.length≤100000000)(hl:l.length≤100000000)(hlt:∀z∈X,z<256)(hend:xO 0 l≤X.length)(hr:BL w A l) :
  Calls prog 38 #[.string (strOf X),.slice A l.length c] w fun e w'=>e=.returned (.string (strOf (nT X 0 l)))∧Below w.heap.size w w':=by
 have Hr:=hid hr;obtain⟨b,hb⟩:∃b,b=w.heap.size:=⟨_,rfl⟩;obtain⟨R,hR⟩:∃R,R=nT X 0 l:=⟨_,rfl⟩;rw[←hR];have HRl:=hid (show ∀z∈R,z<256 from by rw[hR];exact FK hlt l 0);have HR:=hid hR;have Hlt:=hid hlt;have Hb:=hid hb;have Hhd:=hid (fun(T:List Nat) (k:Nat) (hk:k<l.length) (h:xO 0 (l.drop k)≤T.length)=>WB hk h);have Hw:=hid (fun n T w h=>Bb n T w h);have gV:=hid hend;clear hr hR hlt hb hend;go_enter func38,ntmps38
 go_wp2;rw[←Hb.out];have hb0:=(Below.refl w.heap.size w).alloc (Nat.le_refl _) (.cells #[.pointer none,.slice none 0 0] 94);have ajj:BD (w.alloc (.cells #[.pointer none,.slice none 0 0] 94)) w.heap.size b []:=by rw[Hb.out];exact BD.new w _ (Nat.le_refl _)
 have Hb0:=hid hb0;have ail:=hid ajj;clear hb0 ajj;generalize w.alloc (.cells #[.pointer none,.slice none 0 0] 94)=w0 at *;go_loopw [0,11] (fun tv iv wr=>∃(T acc:List Nat) (k:Nat),k≤l.length∧tv=.string (strOf T)∧iv=.int .i64 (k:Int)∧T.length≤100000000∧acc.length+T.length≤100000000∧Hid (∀z∈T,z<256)∧Hid (xO 0 (l.drop k)≤T.length)∧Hid (R=acc++nT T 0 (l.drop k))∧Hid (BD wr w.heap.size b acc)∧Hid (Below w.heap.size w wr)) (fun _ iv _=>l.length-(intOf iv).toNat)
 case atStart=>exact⟨X,[],0,Nat.zero_le _,rfl,rfl,hX,by simp;omega,Hlt,gV,hid (by rw[HR.out];rfl),ail,Hb0⟩
 case round=>
  obtain⟨T,acc,k,hk,rfl,rfl,hT,hacc,htl,hen,hq,hbd,hbel⟩:=hrel;clear HR Hlt gV Hb0 ail;have hws:=hbel.out.size;by_cases hkl:k<l.length
  ·obtain⟨g,off,rfl,hg,hc⟩:=(Hr.out.below hbel.out) (by omega);obtain⟨c0,c1,c2⟩:=hc k hkl;obtain⟨e1,e2,e3⟩:=Hhd.out T k hkl hen.out;have Hq2:=hq.out;rw[e3,←List.append_assoc]at Hq2;have HQ:=hid Hq2;have HE:=hid e2;have Hpc:=hid hc;clear hc e3 Hq2 hq hen Hhd e2;have dd:decide ((k:Int)<(l.length:Int))=true:=decide_eq_true (by omega);generalize l[k].1=n at *;generalize l[k].2.1=m at *;generalize l[k].2.2=o at *;have s1:=fun W=>oh T n (by omega) W
   have s2:=fun W=>kY T n (by omega) W
   have s3:=fun W=>kY (T.drop n) m (by rw[List.length_drop];omega) W
   have W1:=hid (fun W=>Hw.out n T W (by omega));have W2:=hid (fun W=>Hw.out m (T.drop n) W (by rw[List.length_drop];omega));have htk:=List.length_take_le n T;have alT:=hid (gQ htl.out n);have aki:=hid (show ∀z∈(T.drop n).drop m,z<256 from bZ (bZ htl.out n) m);have hl1:(T.take n).length=n:=by rw[List.length_take];omega
   have hl2:((T.drop n).drop m).length=T.length-n-m:=by rw[List.length_drop,List.length_drop]
   have Hbd:=hid (hbd.out.below ((Below.refl wr.heap.size wr).alloc (Nat.le_refl _) (.cells #[.int .i64 (n:Int),.int .i64 (m:Int),.int .i64 (o:Int)] 118)));have uT:=hid (Row.new wr 118 [.int .i64 (n:Int),.int .i64 (m:Int),.int .i64 (o:Int)]);have HbA:=hid (hbel.out.trans (((Below.refl wr.heap.size wr).alloc (Nat.le_refl _) (.cells #[.int .i64 (n:Int),.int .i64 (m:Int),.int .i64 (o:Int)] 118)).mono hws));have hqb:wr.heap.size≠b:=by have:=hbd.out.lt.2;omega
   have Hwr:=hid (yH w.heap.size b acc (T.take n) _ (by omega) alT.out HbA.out.size Hbd.out);clear hbd hbel htl hg;generalize T.take n=T1 at *;generalize (T.drop n).drop m=T3 at *;generalize T.drop n=T2 at *;go_wp2_with fail
   refine(W1.out _).mono ?_;rintro e w1 ⟨rfl,rfl⟩;go_wp2_with fail
   refine Hwr.out.mono ?_;rintro e w2 ⟨rfl,aeN,hb2,hk2⟩;have hrow2:=MF uT.out (by decide) hqb hk2;have k1:=hrow2.cell 1;simp only[List.getElem?_cons_succ,List.getElem?_cons_zero]at k1;have akD:=hid aeN;have Hb2:=hid (HbA.out.trans hb2);clear hrow2 aeN hb2 hk2 uT HbA Hbd Hwr W1 s1 c0 c1 c2;go_wp2_with fail
   refine(W2.out _).mono ?_;rintro e w3 ⟨rfl,rfl⟩;go_wp2;go_roundw
   case rel=>exact⟨T3,acc++T1,k+1,by omega,rfl,by go_num,by omega,by rw[List.length_append];omega,aki,HE,HQ,akD,Hb2⟩
   case measure=>simp[intOf];omega
  ·obtain rfl:k=l.length:=by omega
   have dd:decide ((l.length:Int)<(l.length:Int))=false:=decide_eq_false (by omega);have e:acc++T=R:=by rw[hq.out,List.drop_length];rfl
   have Hwr:=hid (yH w.heap.size b acc T wr (by omega) htl.out hws hbd.out);rw[e]at Hwr;have Hst:=hid (fun w' h1 h=>EK w.heap.size b R w' HRl.out h1 h);clear hq htl hen hbd e;go_wp2_with fail
   refine Hwr.out.mono ?_;rintro e w2 ⟨rfl,aeN,hb2,_⟩;have Hb2:=hid (hbel.out.trans hb2);have Hs2:=hid (Hst.out w2 Hb2.out.size aeN);clear aeN hb2 Hst Hwr hbel;go_wp2_with fail
   refine Hs2.out.mono ?_;rintro e w3 ⟨rfl,hb3⟩;have Hb3:=hid (Hb2.out.trans hb3);clear hb3 Hb2 Hs2;go_wp2;go_ret;exact⟨rfl,Hb3.out⟩
theorem RV:aeu:=fun w D X v hD hX hDl hXl hv=>(Dz D X v w hD hX hDl hXl hv).mono fun _ _ ⟨A,c,he,hr,hb⟩=>
 ⟨A,c,_,he,hr,qA D X v,Tk D X v,GH D X v,hb⟩
theorem Xe:ahl:=fun w X A c l hX hl hlt he hr=>Gd X A c l w hX hl hlt he hr
end Go.Proofs.YtgiicohbigiapaaGreat

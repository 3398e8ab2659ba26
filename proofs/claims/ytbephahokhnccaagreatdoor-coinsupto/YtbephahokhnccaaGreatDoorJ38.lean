/-
No order makes coins, and where no code has the bytes of Create and Destroy and the orders call, none go either (the law Coins, for every list of accounts and every list of orders that are together of bulk at most 1048576): the card CoinsUptoCardSaid; its conditions are those of the given row and card, no others.
-/
import Derived.Test.YtbephahokhnccaaGreatDoorCards
import Derived.Test.YtbephahokhnccaaGreatDoorTie
import Derived.Test.YtbephahokhnccaaGreatDoorJ36
import Derived.Test.YtbephahokhnccaaGreatDoorJ37
set_option linter.all false
set_option maxRecDepth 100000
namespace Go.Proofs.YtbephahokhnccaaGreatDoor
section
open Go.ChangeShapes Go.WideShapes Go.RowKit Go.Conc Go.Mark
section
theorem R9 {p:Pinned} {s:OpenSpec} {c:OpenClaim} (f:FuncId) (fn:Func) (hn:c.program=p.name) (hs:c.sum=p.sum) (hsp:c.spec=s.name) (hst:c.start=.entering) (ho:c.outside=[]) (hto:c.startTold p.checked.prog) (hnb:c.noBlocks=false) (hlv:c.leaving=true) (hfo:c.followed=none) (hna:c.narrowed=s.cond.isSome) (hsl:c.still=false)
  (hfn:p.checked.prog.funcNamed c.func=some f) (hf:p.checked.prog.funcs[f]?=some fn) (cl:joinedFacts p.checked.prog f fn s.bare c=true) (hi:fn.isInstance p.checked.prog c.origin c.targs) (hw:fn.isWrapper p.checked.prog c.wrapper c.mainSum)
  (h:∀os:Os,os.Started->∀(H:Type) (enc:TypeId×Value->H) (F:Stop.Interp),ReturnsInLeavingWide c.assume p.checked os f .any (c.pre enc p.checked.prog fn s) ((s.at F).post enc p.checked.prog fn c.apart c.fresh c.handsOn c.again)):c.holds p s:=by
 simp only[joinedFacts,Bool.and_eq_true,beq_iff_eq,Array.all_eq_true_iff_forall_mem,List.all_eq_true,decide_eq_true_eq] at cl;obtain⟨⟨⟨⟨⟨⟨⟨⟨⟨⟨⟨⟨⟨⟨⟨⟨⟨⟨⟨⟨⟨⟨⟨⟨⟨⟨⟨⟨⟨⟨⟨k1,k2⟩,k3⟩,k4⟩,k5⟩,k6⟩,k7⟩,k8⟩,k9⟩,k10⟩,k11⟩,k12⟩,k13⟩,k14⟩,k15⟩,k16⟩,k17⟩,l17⟩,k18⟩,k19⟩,k20⟩,k21⟩,k22⟩,k23⟩,l23⟩,k24⟩,l24⟩,m24⟩,k25⟩,k26⟩,k27⟩,k28⟩:=cl
 have hq:∀os:Os,Stop.quiet p.checked.prog os:=fun os k hk=>by rw[k9] at hk;cases hk
 refine⟨k1,hn,hs,hsp,k2,k3,by unfold OpenClaim.startFits;rw[hst];exact k24,hto,f,fn,hfn,hf,⟨k4,k19⟩,fun hb=>by(rw[hnb] at hb;cases hb),by unfold OpenClaim.namedList;rw[hfo];exact k5,hi,hw,k6.trans k7.symm,⟨k8.trans k9.symm,by unfold Program.envWorded;rw[k9];rfl,l23⟩,k10,k11,k12,k13,k14,⟨k15,k27,k28⟩,⟨k16,k20⟩,⟨k17,k21,k25,k26⟩,⟨k22,l24,m24,l17⟩,?_,fun n hn'=>varReadable_some (k18 n hn'),⟨_,by unfold OpenClaim.world;rw[ho,hst];exact WideRow.started_initial,hq _⟩,[],by unfold OpenClaim.lists;rw[hfo],fun os st _ H enc _=>?_⟩
 .rw[ho,hna];cases e:c.shortTexts with
  |none=>simp
  |some _=>rw[e] at k23;cases k23
 .have st':os.Started:=by unfold OpenClaim.world at st;rw[ho,hst] at st;exact st
  rw[OpenClaim.post_not_still hsl];unfold OpenClaim.form;rw[hst,k6];intro F
  have e1:c.okInput=Input.okWide:=by unfold OpenClaim.okInput;rw[hnb]
  have e2:c.atReturn p.checked.prog=leavingAtReturn p.checked.prog:=by unfold OpenClaim.atReturn;rw[hlv]
  have e3:c.always p.checked.prog []=nothingAlways:=by unfold OpenClaim.always;rw[hfo]
  have e4:s.post enc p.checked.prog fn F c.outside c.apart c.fresh c.handsOn c.again=(s.at F).post enc p.checked.prog fn c.apart c.fresh c.handsOn c.again:=by rw[ho];rfl
  rw[e1,e2,e3];show ReturnsInOpen _ _ _ _ _ _ _ _ (s.post enc p.checked.prog fn F c.outside c.apart c.fresh c.handsOn c.again) _ _
  rw[e4];exact h os st' H enc F k24
theorem coins_holds:Rows.CoinsUptoSaid:=
 R9 7 Tryz.f7 rfl rfl rfl rfl rfl ⟨rfl,rfl,rfl,rfl,rfl,rfl,rfl⟩ rfl rfl rfl rfl rfl j1 Tryz.func7 j2 j3 j4 (fun os started H enc _=>G6 os started H enc)
end
end
section
open Go
section
theorem j5:Rows.coinsUptoRow.wfByText (Rows.OpenSpec.upto Rows.coinsSpec)=true:=kR
theorem j6:Tryz.pinned.checked.prog.mainIs=some (true, "3430e03593c29cc297c61c08180cadc0f23d07af3fe5f95b60c8e34186d1bde9".toList):=kR
theorem j7:true=Tryz.pinned.checked.prog.looks []:=kR
theorem j8:true=Rows.coinsUptoRow.goesBy Tryz.pinned.checked.prog:=kR
theorem j9:Tryz.prog.wantsStandIn 22=false:=kR
theorem Q7:Tryz.prog.wantsStandIn 57=false:=kR
theorem coins_card_holds:Rows.CoinsUptoCardSaid:=by
 refine⟨Claim7.tied_new_at .later [.handle,.sentinel,.sentinel,.sentinel,.sentinel,.sentinel,.sentinel,.sentinel,.sentinel] true (Claim7.new_of_sixth coins_holds (true, "3430e03593c29cc297c61c08180cadc0f23d07af3fe5f95b60c8e34186d1bde9") true rfl ⟨rfl,rfl⟩ j6 rfl (fun f fn hf hfn=>?_)) j5,(fun D hD=>by cases hD),coinsUpto_row_tie,(fun h=>by cases h),j8⟩;obtain rfl:f=7:=(Option.some.inj (j1.symm.trans hf)).symm;obtain rfl:fn=Tryz.f7:=(Option.some.inj (Tryz.func7.symm.trans hfn)).symm;refine⟨j7,fun j t ht=>?_⟩;rw[Tryz.params7] at ht;have h3:t=22\/t=57:=by
  rcases j with _|_|j
  .exact .inl (by simpa using ht.symm)
  .exact .inr (by simpa using ht.symm)
  .simp at ht
 rcases h3 with rfl|rfl
 .exact j9
 .exact Q7
#print axioms coins_card_holds
end
end
end Go.Proofs.YtbephahokhnccaaGreatDoor
